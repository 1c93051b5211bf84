import PyProof.Rows.All
import Wide.All
import OpenK.AllK
import Wide.FinOn
import HandS.ForMost
import HandS.ForExc
import HandS.Wide
import HandS.IsInst
import HandS.Flow
import PyProof.StrBlock2
import HandS.Defaults
import HandS.Head0
import HandS.Head1
import HandS.Head2
import HandS.HeadEnd
import HandS.HeadHook1
import HandS.HeadHook2
import HandS.TryMany
import KE.DataEq
import HandS.Style
import HandS.Zip
import HandS.Strs
import HandS.SetFor
import HandS.SortInts
import HandS.Conv
import HandS.ListItems
import KE.KDictZip
import KE.KTurns
import HandS.SortKw
import KE.DataMinMax
import HandS.DictTup
import HandS.Deep
import HandS.TupAny
import PySem.Challenge.RW_kimariji_k15_sweeps_touch
set_option Elab.async false
set_option linter.all false
set_option maxRecDepth 100000
set_option maxHeartbeats 4000000
/-! Kj: a layer of data over HandS: what a reading gives, as data, whatever the heap. -/
namespace Kj
open PySem L2
/-! ### heaps -/
def mns (H H0 : Hp) : Hp := fun a => match H0 a with | none => H a | some _ => none
theorem mns_some {H H0 : Hp} {a : Addr} {o : HO} : mns H H0 a = some o ↔ H0 a = none ∧ H a = some o := by
  unfold mns; cases h : H0 a <;> simp
theorem mns_mono {H H' : Hp} (H0 : Hp) (s : Same H H') : Same (mns H H0) (mns H' H0) := fun a o h => by
  rw [mns_some] at h ⊢; exact ⟨h.1, s _ _ h.2⟩
theorem mns_sub {H H0 : Hp} : Same (mns H H0) H := fun a o h => (mns_some.mp h).2
theorem seqT {K : PySem.W.Frag} {H H' : Hp} {a : Addr} {xs : List V} (e : Same H H') (h : SqT K H a xs) : SqT K H' a xs := by
  rcases h with (h | ⟨o, h⟩) | h
  · exact .inl (.inl (e _ _ h))
  · exact .inl (.inr ⟨o, e _ _ h⟩)
  · exact .inr h
mutual
theorem dp_mono {K : PySem.W.Frag} {H H' : Hp} (s : Same H H') : ∀ (d : PyData) (v : V), Dp K H v d → Dp K H' v d
  | .none, _, h => by cases h; exact .non
  | .bool b, _, h => by cases h; exact .bl b
  | .int i, _, h => by cases h; exact .int i
  | .str x, _, h => by cases h; exact .str x
  | .list ds, _, h => by
    cases h with
    | lst hs ha => exact .lst (s.seq hs) (dpa_mono s ds _ ha)
  | .tuple ds, _, h => by
    cases h with
    | tup hs ha => exact .tup (seqT s hs) (dpa_mono s ds _ ha)
  | .dict _, _, h => by cases h
theorem dpa_mono {K : PySem.W.Frag} {H H' : Hp} (s : Same H H') : ∀ (ds : List PyData) (vs : List V), DpAll K H vs ds → DpAll K H' vs ds
  | [], _, h => by cases h; exact .nil
  | d :: ds, _, h => by
    cases h with
    | cons h1 h2 => exact .cons (dp_mono s d _ h1) (dpa_mono s ds _ h2)
end
structure Abs where
  p : V → Hp → Prop
  mono : ∀ (v : V) (H H' : Hp), Same H H' → p v H → p v H'
structure AbsO where
  p : Addr → HO → Hp → Prop
  mono : ∀ (a : Addr) (o : HO) (H H' : Hp), Same H H' → p a o H → p a o H'
inductive Slot where
  | no
  | dat (A : Abs)
  | new (A : Abs)
  | own (B : AbsO)
  | reg (A : Abs)
def aD (K : PySem.W.Frag) (d : PyData) : Abs := ⟨fun v H => Dp K H v d, fun v _ _ s h => dp_mono s d v h⟩
def hp (f : Bool) (Hr H0 : Hp) : Hp := match f with | true => mns Hr H0 | false => Hr
def sl : Bool → Abs → Slot
  | true, A => .new A
  | false, A => .dat A
theorem hp_mono (f : Bool) {H H' : Hp} (H0 : Hp) (s : Same H H') : Same (hp f H H0) (hp f H' H0) := by
  cases f
  · exact s
  · exact mns_mono H0 s
theorem hp_sub (f : Bool) {H H0 : Hp} : Same (hp f H H0) H := by
  cases f
  · exact Same.refl _
  · exact mns_sub
def SlotOk (H0 H Hr : Hp) (σ : St) (i : Nat) : Slot → Prop
  | .no => True
  | .dat A => ∃ v, σ[i]? = some (some v) ∧ A.p v Hr
  | .new A => ∃ v, σ[i]? = some (some v) ∧ A.p v (mns Hr H0)
  | .own B => ∃ p o, σ[i]? = some (some (.ref p)) ∧ H0 p = none ∧ Hr p = none ∧ H p = some o ∧ B.p p o (mns Hr H0)
  | .reg _ => True
/-- what is new as a whole, and outside of what is kept: its own part of the heap -/
def RegOk (H0 H Hr : Hp) (σ : St) (ρ : List Slot) : Prop := ∃ Gs : Nat → Hp,
  (∀ (i : Nat) (A : Abs), ρ[i]? = some (Slot.reg A) → (∃ v, σ[i]? = some (some v) ∧ A.p v (Gs i)) ∧ ∀ (a : Addr) (o : HO), Gs i a = some o → H a = some o ∧ Hr a = none ∧ H0 a = none) ∧
  (∀ (i j : Nat) (A A' : Abs), i ≠ j → ρ[i]? = some (Slot.reg A) → ρ[j]? = some (Slot.reg A') → ∀ (a : Addr) (o : HO), Gs i a = some o → Gs j a = none) ∧
  (∀ (i j : Nat) (A : Abs) (B : AbsO) (p : Addr), ρ[i]? = some (Slot.reg A) → ρ[j]? = some (Slot.own B) → σ[j]? = some (some (V.ref p)) → Gs i p = none)
theorem RegOk.nil {H0 H Hr : Hp} {σ : St} {ρ : List Slot} (h : ∀ (i : Nat) (A : Abs), ρ[i]? ≠ some (Slot.reg A)) : RegOk H0 H Hr σ ρ :=
  ⟨fun _ _ => none, fun i A e => absurd e (h i A), fun i _ A _ _ e => absurd e (h i A), fun i _ A _ _ e => absurd e (h i A)⟩
theorem RegOk.to {H0 H Hr H0' H' Hr' : Hp} {σ σ' : St} {ρ ρ' : List Slot} (R : RegOk H0 H Hr σ ρ)
    (hreg : ∀ (i : Nat) (A : Abs), ρ'[i]? = some (Slot.reg A) → ρ[i]? = some (Slot.reg A) ∧ σ'[i]? = σ[i]?)
    (hc : ∀ (a : Addr) (o : HO), H a = some o → Hr a = none → H0 a = none → (∀ (j : Nat) (B : AbsO), ρ[j]? = some (Slot.own B) → σ[j]? = some (some (V.ref a)) → False) → H' a = some o ∧ Hr' a = none ∧ H0' a = none)
    (hown : ∀ (j : Nat) (B : AbsO) (p : Addr), ρ'[j]? = some (Slot.own B) → σ'[j]? = some (some (V.ref p)) → (∃ B', ρ[j]? = some (Slot.own B') ∧ σ[j]? = some (some (V.ref p))) ∨ H p = none ∨ Hr p ≠ none ∨ H0 p ≠ none) : RegOk H0' H' Hr' σ' ρ' := by
  obtain ⟨Gs, h1, h2, h3⟩ := R
  refine ⟨Gs, fun i A e => ?_, fun i j A A' n e e' => h2 i j A A' n (hreg i A e).1 (hreg j A' e').1, fun i j A B p e e' es => ?_⟩
  · obtain ⟨r1, r2⟩ := hreg i A e
    obtain ⟨⟨v, g1, g2⟩, g3⟩ := h1 i A r1
    refine ⟨⟨v, by rw [r2]; exact g1, g2⟩, fun a o q => ?_⟩
    obtain ⟨q1, q2, q3⟩ := g3 a o q
    exact hc a o q1 q2 q3 fun j B hj hs => by rw [h3 i j A B a r1 hj hs] at q; cases q
  · have r1 := (hreg i A e).1
    obtain ⟨_, g3⟩ := h1 i A r1
    rcases hown j B p e' es with ⟨B', z1, z2⟩ | z | z | z
    · exact h3 i j A B' p r1 z1 z2
    · cases q : Gs i p with
      | none => rfl
      | some o => rw [(g3 p o q).1] at z; cases z
    · cases q : Gs i p with
      | none => rfl
      | some o => exact absurd (g3 p o q).2.1 z
    · cases q : Gs i p with
      | none => rfl
      | some o => exact absurd (g3 p o q).2.2 z
theorem set_at {α : Type} {l : List α} {i j : Nat} {x y : α} (h : (l.set i x)[j]? = some y) : (j = i ∧ y = x) ∨ (j ≠ i ∧ l[j]? = some y) := by
  by_cases e : j = i
  · subst e
    by_cases hl : j < l.length
    · rw [List.getElem?_set_self hl] at h; exact .inl ⟨rfl, (Option.some.inj h).symm⟩
    · rw [List.getElem?_eq_none (by rw [List.length_set]; omega)] at h; cases h
  · rw [List.getElem?_set_ne (Ne.symm e)] at h; exact .inr ⟨e, h⟩
/-- a slot that is set is neither -/
theorem RegOk.set1 {H0 H Hr H0' H' Hr' : Hp} {σ : St} {ρ : List Slot} (R : RegOk H0 H Hr σ ρ) {i : Nat} {s : Slot} {σ' : St} (hσ : ∀ j : Nat, j ≠ i → σ'[j]? = σ[j]?) (h1 : ∀ A, s ≠ .reg A) (h2 : ∀ B, s ≠ .own B)
    (hc : ∀ (a : Addr) (o : HO), H a = some o → Hr a = none → H0 a = none → (∀ (j : Nat) (B : AbsO), ρ[j]? = some (Slot.own B) → σ[j]? = some (some (V.ref a)) → False) → H' a = some o ∧ Hr' a = none ∧ H0' a = none) : RegOk H0' H' Hr' σ' (ρ.set i s) :=
  R.to (fun j A h => by
    rcases set_at h with ⟨_, e⟩ | ⟨n, e⟩
    · exact absurd e.symm (h1 A)
    · exact ⟨e, hσ j n⟩) hc (fun j B p h hs => by
    rcases set_at h with ⟨_, e⟩ | ⟨n, e⟩
    · exact absurd e.symm (h2 B)
    · exact .inl ⟨B, e, by rw [← hσ j n]; exact hs⟩)
/-- a slot that is set to an own one -/
theorem RegOk.setO {H0 H Hr H0' H' Hr' : Hp} {σ : St} {ρ : List Slot} (R : RegOk H0 H Hr σ ρ) {i : Nat} {B : AbsO} {σ' : St} {p : Addr} (hσ : ∀ j : Nat, j ≠ i → σ'[j]? = σ[j]?) (hp : σ'[i]? = some (some (.ref p)))
    (hc : ∀ (a : Addr) (o : HO), H a = some o → Hr a = none → H0 a = none → (∀ (j : Nat) (B : AbsO), ρ[j]? = some (Slot.own B) → σ[j]? = some (some (V.ref a)) → False) → H' a = some o ∧ Hr' a = none ∧ H0' a = none)
    (ho : (∃ B', ρ[i]? = some (Slot.own B') ∧ σ[i]? = some (some (V.ref p))) ∨ H p = none ∨ Hr p ≠ none ∨ H0 p ≠ none) : RegOk H0' H' Hr' σ' (ρ.set i (.own B)) :=
  R.to (fun j A h => by
    rcases set_at h with ⟨_, e⟩ | ⟨n, e⟩
    · cases e
    · exact ⟨e, hσ j n⟩) hc (fun j B p' h hs => by
    rcases set_at h with ⟨z, e⟩ | ⟨n, e⟩
    · subst z; rw [hp] at hs; cases hs; exact ho
    · exact .inl ⟨B, e, by rw [← hσ j n]; exact hs⟩)
structure EnvOk (H0 : Hp) (σ : St) (ρ : List Slot) (H Hr : Hp) : Prop where
  base : Same H0 H
  sub : Same Hr H
  len : σ.length = ρ.length
  slot : ∀ (i : Nat) (s : Slot), ρ[i]? = some s → SlotOk H0 H Hr σ i s
  dis : ∀ (i j : Nat) (p : Addr) (B B' : AbsO), i ≠ j → ρ[i]? = some (Slot.own B) → ρ[j]? = some (Slot.own B') → σ[i]? = some (some (V.ref p)) → σ[j]? = some (some (V.ref p)) → False
  reg : RegOk H0 H Hr σ ρ
structure Ext (H Hr H' Hr' : Hp) : Prop where
  h : Same H H'
  r : Same Hr Hr'
  s : Same Hr' H'
  n : ∀ a o, Hr' a = some o → Hr a = none → H a = none
theorem Ext.refl {H Hr : Hp} (s : Same Hr H) : Ext H Hr H Hr := ⟨Same.refl _, Same.refl _, s, fun a o h h' => by rw [h] at h'; cases h'⟩
theorem Ext.trans {H Hr H1 Hr1 H2 Hr2 : Hp} (x : Ext H Hr H1 Hr1) (y : Ext H1 Hr1 H2 Hr2) : Ext H Hr H2 Hr2 :=
  ⟨x.h.trans y.h, x.r.trans y.r, y.s, fun a o h h' => by
    cases q : Hr1 a with
    | none => exact x.h.free (y.n a o h q)
    | some u => exact x.n a u q h'⟩
theorem Ext.out {H Hr H' Hr' : Hp} (x : Ext H Hr H' Hr') {a : Addr} {o : HO} (h : H a = some o) (h' : Hr a = none) : Hr' a = none := by
  cases q : Hr' a with
  | none => rfl
  | some u => have := x.n a u q h'; rw [h] at this; cases this
theorem EnvOk.ext {H0 : Hp} {σ : St} {ρ : List Slot} {H Hr H' Hr' : Hp} (E : EnvOk H0 σ ρ H Hr) (x : Ext H Hr H' Hr') : EnvOk H0 σ ρ H' Hr' := by
  refine ⟨E.base.trans x.h, x.s, E.len, fun i s hs => ?_, E.dis, E.reg.to (fun i A h => ⟨h, rfl⟩) (fun a o h1 h2 h3 _ => ⟨x.h _ _ h1, x.out h1 h2, h3⟩) fun j B p h1 h2 => .inl ⟨B, h1, h2⟩⟩
  have h := E.slot i s hs
  cases s with
  | no => trivial
  | reg A => trivial
  | dat A => obtain ⟨v, e, a⟩ := h; exact ⟨v, e, A.mono _ _ _ x.r a⟩
  | new A => obtain ⟨v, e, a⟩ := h; exact ⟨v, e, A.mono _ _ _ (mns_mono _ x.r) a⟩
  | own B =>
    obtain ⟨p, o, e, h0, hr, hh, b⟩ := h
    refine ⟨p, o, e, h0, ?_, x.h _ _ hh, B.mono _ _ _ _ (mns_mono _ x.r) b⟩
    cases q : Hr' p with
    | none => rfl
    | some u => have := x.n p u q hr; rw [hh] at this; cases this
theorem EnvOk.set {H0 : Hp} {σ : St} {ρ : List Slot} {H Hr : Hp} (E : EnvOk H0 σ ρ H Hr) {i : Nat} {f : Bool} {A : Abs} {v : V} (hi : i < ρ.length) (h : A.p v (hp f Hr H0)) : EnvOk H0 (σ.set i (some v)) (ρ.set i (sl f A)) H Hr := by
  have hσ : i < σ.length := by rw [E.len]; exact hi
  have ne : ∀ (B : AbsO), sl f A ≠ .own B := by intro B; cases f <;> intro z <;> cases z
  refine ⟨E.base, E.sub, by simp [E.len], fun j s hs => ?_, fun j k p B B' hjk hj hk ej ek => ?_, E.reg.set1 (fun j n => List.getElem?_set_ne (Ne.symm n)) (fun A z => by cases f <;> cases z) (fun B z => ne B z) fun a o h1 h2 h3 _ => ⟨h1, h2, h3⟩⟩
  · by_cases hj : j = i
    · subst hj
      rw [List.getElem?_set_self hi] at hs
      have e := Option.some.inj hs
      subst e
      cases f
      · exact ⟨v, by rw [List.getElem?_set_self hσ], h⟩
      · exact ⟨v, by rw [List.getElem?_set_self hσ], h⟩
    · rw [List.getElem?_set_ne (Ne.symm hj)] at hs
      have := E.slot j s hs
      have e : (σ.set i (some v))[j]? = σ[j]? := List.getElem?_set_ne (Ne.symm hj)
      cases s with
      | no => trivial
      | reg A => trivial
      | dat A => unfold SlotOk at this ⊢; rw [e]; exact this
      | new A => unfold SlotOk at this ⊢; rw [e]; exact this
      | own B => unfold SlotOk at this ⊢; rw [e]; exact this
  · have h1 : j ≠ i := by
      rintro rfl
      rw [List.getElem?_set_self hi] at hj
      exact ne B (Option.some.inj hj)
    have h2 : k ≠ i := by
      rintro rfl
      rw [List.getElem?_set_self hi] at hk
      exact ne B' (Option.some.inj hk)
    rw [List.getElem?_set_ne (Ne.symm h1)] at hj ej
    rw [List.getElem?_set_ne (Ne.symm h2)] at hk ek
    exact E.dis j k p B B' hjk hj hk ej ek
/-- a new object that is the slot's own -/
theorem EnvOk.lay {H0 : Hp} {σ : St} {ρ : List Slot} {H Hr : Hp} (E : EnvOk H0 σ ρ H Hr) {i : Nat} {B : AbsO} {p : Addr} {o : HO} (hi : i < ρ.length) (hn : H p = none) (h : B.p p o (mns Hr H0)) :
    EnvOk H0 (σ.set i (some (.ref p))) (ρ.set i (.own B)) (upd H p o) Hr := by
  have hσ : i < σ.length := by rw [E.len]; exact hi
  have up : Same H (upd H p o) := fun a u e => by rw [upd_ne (ne_of_none e hn)]; exact e
  refine ⟨E.base.trans up, E.sub.trans up, by simp [E.len], fun j s hs => ?_, fun j k q B1 B2 hjk hj hk ej ek => ?_, E.reg.setO (fun j n => List.getElem?_set_ne (Ne.symm n)) (List.getElem?_set_self hσ) (fun a o h1 h2 h3 _ => ⟨up _ _ h1, h2, h3⟩) (.inr (.inl hn))⟩
  · by_cases hj : j = i
    · subst hj
      rw [List.getElem?_set_self hi] at hs
      have e := Option.some.inj hs
      subst e
      exact ⟨p, o, by rw [List.getElem?_set_self hσ], E.base.free hn, E.sub.free hn, upd_same, h⟩
    · rw [List.getElem?_set_ne (Ne.symm hj)] at hs
      have := E.slot j s hs
      have e : (σ.set i (some (.ref p)))[j]? = σ[j]? := List.getElem?_set_ne (Ne.symm hj)
      cases s with
      | no => trivial
      | reg A => trivial
      | dat A => unfold SlotOk at this ⊢; rw [e]; exact this
      | new A => unfold SlotOk at this ⊢; rw [e]; exact this
      | own B => unfold SlotOk at this ⊢; rw [e]; obtain ⟨q, u, e1, e2, e3, e4, e5⟩ := this; exact ⟨q, u, e1, e2, e3, up _ _ e4, e5⟩
  · have old : ∀ (j : Nat) (B1 : AbsO) (q : Addr), j ≠ i → ρ[j]? = some (.own B1) → σ[j]? = some (some (.ref q)) → q ≠ p := fun j B1 q hj h1 h2 => by
      obtain ⟨q', u, e1, _, _, e4, _⟩ := E.slot j _ h1
      rw [h2] at e1
      cases e1
      exact ne_of_none e4 hn
    by_cases h1 : j = i
    · subst h1
      rw [List.getElem?_set_self hσ] at ej
      cases ej
      have h2 : k ≠ j := Ne.symm hjk
      rw [List.getElem?_set_ne (Ne.symm h2)] at hk ek
      exact old k B2 p h2 hk ek rfl
    · rw [List.getElem?_set_ne (Ne.symm h1)] at hj ej
      by_cases h2 : k = i
      · subst h2
        rw [List.getElem?_set_self hσ] at ek
        cases ek
        exact old j B1 p h1 hj ej rfl
      · rw [List.getElem?_set_ne (Ne.symm h2)] at hk ek
        exact E.dis j k q B1 B2 hjk hj hk ej ek
/-- an own object is changed -/
theorem EnvOk.wr {H0 : Hp} {σ : St} {ρ : List Slot} {H Hr : Hp} (E : EnvOk H0 σ ρ H Hr) {i : Nat} {B B1 : AbsO} {p : Addr} {o : HO} (hi : ρ[i]? = some (.own B)) (hp : σ[i]? = some (some (.ref p))) (h : B1.p p o (mns Hr H0)) :
    EnvOk H0 σ (ρ.set i (.own B1)) (upd H p o) Hr := by
  have hl : i < ρ.length := (List.getElem?_eq_some_iff.mp hi).1
  obtain ⟨p', u, e1, e2, e3, e4, e5⟩ := E.slot i _ hi
  rw [hp] at e1
  cases e1
  have keep : ∀ (G : Hp), G p = none → Same G H → Same G (upd H p o) := fun G g s a v e => by rw [upd_ne (ne_of_none e g)]; exact s _ _ e
  refine ⟨keep _ e2 E.base, keep _ e3 E.sub, by simp [E.len], fun j s hs => ?_, fun j k q B2 B3 hjk hj hk ej ek => ?_, E.reg.setO (fun j n => rfl) hp (fun a o h1 h2 h3 h4 => ⟨by rw [upd_ne fun z => h4 i B hi (by rw [z]; exact hp)]; exact h1, h2, h3⟩) (.inl ⟨B, hi, hp⟩)⟩
  · by_cases hj : j = i
    · subst hj
      rw [List.getElem?_set_self hl] at hs
      have e := Option.some.inj hs
      subst e
      exact ⟨p, o, hp, e2, e3, upd_same, h⟩
    · rw [List.getElem?_set_ne (Ne.symm hj)] at hs
      have := E.slot j s hs
      cases s with
      | no => trivial
      | reg A => trivial
      | dat A => exact this
      | new A => exact this
      | own B4 =>
        obtain ⟨q, w, f1, f2, f3, f4, f5⟩ := this
        refine ⟨q, w, f1, f2, f3, ?_, f5⟩
        have : q ≠ p := fun z => by subst z; exact E.dis j i q B4 B hj hs hi f1 hp
        rw [upd_ne this]; exact f4
  · have back : ∀ (m : Nat) (B2 : AbsO), (ρ.set i (.own B1))[m]? = some (.own B2) → ∃ B3, ρ[m]? = some (.own B3) := fun m B2 hm => by
      by_cases z : m = i
      · subst z; exact ⟨B, hi⟩
      · rw [List.getElem?_set_ne (Ne.symm z)] at hm; exact ⟨B2, hm⟩
    obtain ⟨_, g1⟩ := back j B2 hj
    obtain ⟨_, g2⟩ := back k B3 hk
    exact E.dis j k q _ _ hjk g1 g2 ej ek
theorem Ext.lay {H Hr : Hp} (s : Same Hr H) {p : Addr} {o : HO} (hn : H p = none) : Ext H Hr (upd H p o) (upd Hr p o) := by
  refine ⟨fun a u e => by rw [upd_ne (ne_of_none e hn)]; exact e, fun a u e => by rw [upd_ne (ne_of_none e (s.free hn))]; exact e, fun a u e => ?_, fun a u e h => ?_⟩
  · by_cases z : a = p
    · subst z; rw [upd_same] at e ⊢; exact e
    · rw [upd_ne z] at e ⊢; exact s _ _ e
  · by_cases z : a = p
    · subst z; exact hn
    · rw [upd_ne z] at e; rw [h] at e; cases e
theorem hp_lay (f : Bool) {H0 H Hr : Hp} (b : Same H0 H) {p : Addr} {o : HO} (hn : H p = none) : hp f (upd Hr p o) H0 p = some o := by
  cases f
  · exact upd_same
  · exact mns_some.mpr ⟨b.free hn, upd_same⟩
/-- all readable data, and what is new since H1, over H2 -/
def joinH (Hr H1 H2 : Hp) : Hp := fun a => match Hr a with | some o => some o | none => mns H2 H1 a
theorem Ext.call {H Hr H1 H2 : Hp} (s : Same Hr H) (s1 : Same H H1) (s2 : Same H1 H2) : Ext H Hr H2 (joinH Hr H1 H2) := by
  refine ⟨s1.trans s2, fun a o e => by unfold joinH; rw [e], fun a o e => ?_, fun a o e h => ?_⟩
  · unfold joinH at e
    cases q : Hr a with
    | some u => rw [q] at e; cases e; exact s2 _ _ (s1 _ _ (s _ _ q))
    | none => rw [q] at e; exact (mns_some.mp e).2
  · unfold joinH at e
    rw [h] at e
    exact s1.free (mns_some.mp e).1
theorem joinH_new {H0 H Hr H1 H2 : Hp} (b : Same H0 H) (s : Same Hr H) (s1 : Same H H1) : Same (mns H2 H1) (mns (joinH Hr H1 H2) H0) := fun a o e => by
  have e' := mns_some.mp e
  refine mns_some.mpr ⟨b.free (s1.free e'.1), ?_⟩
  unfold joinH
  have : Hr a = none := s.free (s1.free e'.1)
  rw [this]
  exact e
/-! ### judgements -/
def DE (H0 : Hp) (ρ : List Slot) (t : TE) (f : Bool) (A : Abs) : Prop :=
  ∀ (σ : St) (H Hr : Hp) (Q : VK), EnvOk H0 σ ρ H Hr → (∀ v H' Hr', Ext H Hr H' Hr' → A.p v (hp f Hr' H0) → Q v H') → t σ H Q
def DT (K : PySem.W.Frag) (H0 : Hp) (ρ : List Slot) (t : TT) (b : Bool) : Prop :=
  ∀ (σ : St) (H Hr : Hp) (Q : Bool → Hp → Prop), EnvOk H0 σ ρ H Hr → (∀ H' Hr', Ext H Hr H' Hr' → Q b H') → t σ H Q
inductive AllP : List Abs → List V → Hp → Prop
  | nil {H : Hp} : AllP [] [] H
  | cons {A : Abs} {As : List Abs} {v : V} {vs : List V} {H : Hp} : A.p v H → AllP As vs H → AllP (A :: As) (v :: vs) H
theorem AllP.mono {H H' : Hp} (s : Same H H') : ∀ {As : List Abs} {vs : List V}, AllP As vs H → AllP As vs H'
  | _, _, .nil => .nil
  | _, _, .cons (A := A) h t => .cons (A.mono _ _ _ s h) (AllP.mono s t)
theorem AllP.length {H : Hp} : ∀ {As : List Abs} {vs : List V}, AllP As vs H → As.length = vs.length
  | _, _, .nil => rfl
  | _, _, .cons _ t => by simp [AllP.length t]
def DA (H0 : Hp) (ρ : List Slot) (t : TA) (f : Bool) (As : List Abs) : Prop :=
  ∀ (σ : St) (H Hr : Hp) (Q : List V → Hp → Prop), EnvOk H0 σ ρ H Hr → (∀ vs H' Hr', Ext H Hr H' Hr' → AllP As vs (hp f Hr' H0) → Q vs H') → t σ H Q
abbrev XA := Value → Option Addr → Hp → Prop
/-- what is asked of a way out by a raise, and what is known there -/
structure WZ where
  W : WX
  Z : List Slot → XA
def C0 : WZ := ⟨fun _ _ _ _ => False, fun _ _ _ _ => False⟩
def KR (H0 : Hp) (R : Abs) (rt : V → Hp → Prop) (Hr : Hp) : Prop := ∀ v H', Same H0 H' → Same Hr H' → R.p v (mns H' H0) → rt v H'
def KX (H0 : Hp) (C : WZ) (Hr : Hp) : Prop := ∀ ρ' σ' H' Hr' cls d, C.Z ρ' cls d H' → EnvOk H0 σ' ρ' H' Hr' → Same Hr Hr' → C.W cls d σ' H'
theorem KR.up {H0 : Hp} {R : Abs} {rt : V → Hp → Prop} {Hr Hr' : Hp} (k : KR H0 R rt Hr) (s : Same Hr Hr') : KR H0 R rt Hr' := fun v H' s1 s2 r => k v H' s1 (s.trans s2) r
theorem KX.up {H0 : Hp} {C : WZ} {Hr Hr' : Hp} (k : KX H0 C Hr) (s : Same Hr Hr') : KX H0 C Hr' := fun ρ' σ' H' Hr'' cls d z E s2 => k ρ' σ' H' Hr'' cls d z E (s.trans s2)
theorem KX.no {H0 : Hp} {C : WZ} {Hr : Hp} (h : ∀ ρ' cls d H', ¬ C.Z ρ' cls d H') : KX H0 C Hr := fun ρ' σ' H' Hr' cls d z _ _ => (h _ _ _ _ z).elim
/-- a block: N, what holds of the slots behind it; R, what is handed back (new) -/
def DS (C : WZ) (H0 : Hp) (ρ : List Slot) (t : TS) (N : List Slot → Prop) (R : Abs) : Prop :=
  ∀ (σ : St) (H Hr : Hp) (D : Ends), EnvOk H0 σ ρ H Hr → (∀ ρ' σ' H' Hr', N ρ' → EnvOk H0 σ' ρ' H' Hr' → Same Hr Hr' → D.nx σ' H') →
    KR H0 R D.rt Hr → KX H0 C Hr → t D σ H
section
variable {H0 : Hp} {ρ : List Slot} {K : PySem.W.Frag}
/-- data without an address -/
def scD : PyData → Bool
  | .none => true | .bool _ => true | .int _ => true | .str _ => true | _ => false
theorem dp_sc {H H' : Hp} {d : PyData} {v : V} (hs : scD d = true) (h : Dp K H v d) : Dp K H' v d := by
  cases h with
  | non => exact .non
  | bl b => exact .bl b
  | int i => exact .int i
  | str x => exact .str x
  | lst _ _ => cases hs
  | tup _ _ => cases hs
theorem dpa_sc {H H' : Hp} : ∀ {ds : List PyData} {vs : List V}, ds.all scD = true → DpAll K H vs ds → DpAll K H' vs ds
  | [], _, _, h => by cases h; exact .nil
  | d :: ds, _, hs, h => by
    cases h with
    | cons h1 h2 =>
      simp only [List.all_cons, Bool.and_eq_true] at hs
      exact .cons (dp_sc hs.1 h1) (dpa_sc hs.2 h2)
theorem de_up {t : TE} {d : PyData} {f g : Bool} (h : DE H0 ρ t f (aD K d)) (hs : scD d = true := by rfl) : DE H0 ρ t g (aD K d) := fun σ H Hr Q E k => h σ H Hr Q E fun v H' Hr' x a => k v H' Hr' x (dp_sc hs a)
theorem de_eq {t : TE} {d e : PyData} {f : Bool} (h : DE H0 ρ t f (aD K d)) (he : d = e) : DE H0 ρ t f (aD K e) := he ▸ h
theorem de_var {i : Nat} {A : Abs} (h : ρ[i]? = some (.dat A)) : DE H0 ρ (tVar i) false A := fun σ H Hr Q E k => by
  obtain ⟨v, e, a⟩ := E.slot i _ h
  exact ⟨v, e, k v H Hr (Ext.refl E.sub) a⟩
theorem de_varn {i : Nat} {A : Abs} (h : ρ[i]? = some (.new A)) : DE H0 ρ (tVar i) true A := fun σ H Hr Q E k => by
  obtain ⟨v, e, a⟩ := E.slot i _ h
  exact ⟨v, e, k v H Hr (Ext.refl E.sub) a⟩
theorem de_vs {i : Nat} {A : Abs} {f : Bool} (h : ρ[i]? = some (sl f A)) : DE H0 ρ (tVar i) f A := by
  cases f
  · exact de_var h
  · exact de_varn h
theorem de_c {v : V} {d : PyData} {f : Bool} (h : ∀ H, Dp K H v d) : DE H0 ρ (tC v) f (aD K d) := fun σ H Hr Q E k => k v H Hr (Ext.refl E.sub) (h _)
theorem de_int {i : Int} {f : Bool} : DE H0 ρ (tC (.int i)) f (aD K (.int i)) := de_c fun _ => .int i
theorem de_str {i : Str} {f : Bool} : DE H0 ρ (tC (.str i)) f (aD K (.str i)) := de_c fun _ => .str i
theorem de_bl {i : Bool} {f : Bool} : DE H0 ρ (tC (.bl i)) f (aD K (.bool i)) := de_c fun _ => .bl i
theorem de_non {f : Bool} : DE H0 ρ (tC .non) f (aD K .none) := de_c fun _ => .non
/-- two operands, a scalar out -/
theorem de_op {r : R2} {ta tb : TE} {A B : Abs} {d : PyData} {f fa fb : Bool} (ha : DE H0 ρ ta fa A) (hb : DE H0 ρ tb fb B)
    (h : ∀ (x y : V) (Hr H : Hp) (Q : VK), Same Hr H → A.p x Hr → B.p y Hr → (∀ v, (∀ G, Dp K G v d) → Q v H) → r x y H Q) : DE H0 ρ (tOp r ta tb) f (aD K d) := fun σ H Hr Q E k => by
  refine ha σ H Hr _ E fun x H1 Hr1 x1 a1 => hb σ H1 Hr1 _ (E.ext x1) fun y H2 Hr2 x2 a2 => ?_
  exact h x y Hr2 H2 Q x2.s (A.mono _ _ _ ((hp_sub fa).trans x2.r) a1) (B.mono _ _ _ (hp_sub fb) a2) fun v hv => k v H2 Hr2 (x1.trans x2) (hv _)
theorem de_un {r : V → Hp → VK → Prop} {ta : TE} {A : Abs} {d : PyData} {f fa : Bool} (ha : DE H0 ρ ta fa A)
    (h : ∀ (x : V) (Hr H : Hp) (Q : VK), Same Hr H → A.p x Hr → (∀ v, (∀ G, Dp K G v d) → Q v H) → r x H Q) : DE H0 ρ (tUn r ta) f (aD K d) := fun σ H Hr Q E k => by
  refine ha σ H Hr _ E fun x H1 Hr1 x1 a1 => h x Hr1 H1 Q x1.s (A.mono _ _ _ (hp_sub fa) a1) fun v hv => k v H1 Hr1 x1 (hv _)
theorem de_i0 {g : Int → Int → V} {ta tb : TE} {i j : Int} {d : PyData} {f fa fb : Bool} (ha : DE H0 ρ ta fa (aD K (.int i))) (hb : DE H0 ρ tb fb (aD K (.int j))) (hg : ∀ G, Dp K G (g i j) d) : DE H0 ρ (tOp (rI0 g) ta tb) f (aD K d) :=
  de_op ha hb fun x y Hr H Q _ a b k => by
    cases a; cases b
    exact ⟨i, j, rfl, rfl, k _ hg⟩
theorem de_iC {C : Int → Int → Prop} {g : Int → Int → V} {ta tb : TE} {i j : Int} {d : PyData} {f fa fb : Bool} (ha : DE H0 ρ ta fa (aD K (.int i))) (hb : DE H0 ρ tb fb (aD K (.int j))) (hc : C i j) (hg : ∀ G, Dp K G (g i j) d) : DE H0 ρ (tOp (rI C g) ta tb) f (aD K d) :=
  de_op ha hb fun x y Hr H Q _ a b k => by
    cases a; cases b
    exact ⟨i, j, rfl, rfl, hc, k _ hg⟩
section
variable {ta tb tc : TE} {i j k : Int} {f fa fb fc : Bool}
theorem de_add (ha : DE H0 ρ ta fa (aD K (.int i))) (hb : DE H0 ρ tb fb (aD K (.int j))) : DE H0 ρ (tOp (rI0 fun i j => .int (i + j)) ta tb) f (aD K (.int (i + j))) := de_i0 ha hb fun _ => .int _
theorem de_sub (ha : DE H0 ρ ta fa (aD K (.int i))) (hb : DE H0 ρ tb fb (aD K (.int j))) : DE H0 ρ (tOp (rI0 fun i j => .int (i - j)) ta tb) f (aD K (.int (i - j))) := de_i0 ha hb fun _ => .int _
theorem de_mul (ha : DE H0 ρ ta fa (aD K (.int i))) (hb : DE H0 ρ tb fb (aD K (.int j))) (h : CMul i j) : DE H0 ρ (tOp (rI CMul fun i j => .int (i * j)) ta tb) f (aD K (.int (i * j))) := de_iC ha hb h fun _ => .int _
theorem de_fdiv (ha : DE H0 ρ ta fa (aD K (.int i))) (hb : DE H0 ρ tb fb (aD K (.int j))) (h : CDiv i j) : DE H0 ρ (tOp (rI CDiv fun i j => .int (i / j)) ta tb) f (aD K (.int (i / j))) := de_iC ha hb h fun _ => .int _
theorem de_mod (ha : DE H0 ρ ta fa (aD K (.int i))) (hb : DE H0 ρ tb fb (aD K (.int j))) (h : 0 < j) : DE H0 ρ (tOp (rI (fun _ j => 0 < j) fun i j => .int (i % j)) ta tb) f (aD K (.int (i % j))) := de_iC ha hb h fun _ => .int _
theorem de_pow (ha : DE H0 ρ ta fa (aD K (.int i))) (hb : DE H0 ρ tb fb (aD K (.int j))) (h : CPow i j) : DE H0 ρ (tOp (rI CPow fun i j => .int (i ^ j.toNat)) ta tb) f (aD K (.int (i ^ j.toNat))) := de_iC ha hb h fun _ => .int _
theorem de_neg (ha : DE H0 ρ ta fa (aD K (.int i))) : DE H0 ρ (tUn (rU fun i => .int (-i)) ta) f (aD K (.int (-i))) := de_un ha fun x Hr H Q _ a k => by cases a; exact ⟨i, rfl, k _ fun _ => .int _⟩
/-- comparisons of ints that give a bool -/
theorem de_cmp {g : Int → Int → Bool} (ha : DE H0 ρ ta fa (aD K (.int i))) (hb : DE H0 ρ tb fb (aD K (.int j))) : DE H0 ρ (tOp (rI0 fun i j => .bl (g i j)) ta tb) f (aD K (.bool (g i j))) := de_i0 ha hb fun _ => .bl _
theorem de_eqI (ha : DE H0 ρ ta fa (aD K (.int i))) (hb : DE H0 ρ tb fb (aD K (.int j))) : DE H0 ρ (tOp rEq ta tb) f (aD K (.bool (decide (i = j)))) := de_op ha hb fun x y Hr H Q _ a b k => by
  cases a; cases b
  exact ⟨rfl, k _ fun _ => by rw [show decide (V.int i = V.int j) = decide (i = j) by simp]; exact .bl _⟩
theorem de_eqS {x y : Str} (ha : DE H0 ρ ta fa (aD K (.str x))) (hb : DE H0 ρ tb fb (aD K (.str y))) : DE H0 ρ (tOp rEq ta tb) f (aD K (.bool (decide (x = y)))) := de_op ha hb fun x y Hr H Q _ a b k => by
  cases a; cases b
  exact ⟨rfl, k _ fun _ => by rw [show ∀ x y : Str, decide (V.str x = V.str y) = decide (x = y) by intro x y; simp]; exact .bl _⟩
theorem de_neS {x y : Str} (ha : DE H0 ρ ta fa (aD K (.str x))) (hb : DE H0 ρ tb fb (aD K (.str y))) : DE H0 ρ (tOp rNe ta tb) f (aD K (.bool (!decide (x = y)))) := de_op ha hb fun x y Hr H Q _ a b k => by
  cases a; cases b
  exact ⟨rfl, k _ fun _ => by rw [show ∀ x y : Str, decide (V.str x = V.str y) = decide (x = y) by intro x y; simp]; exact .bl _⟩
end
end
end Kj

set_option Elab.async false
set_option linter.all false
set_option maxRecDepth 100000
set_option maxHeartbeats 4000000
namespace Kj
open PySem L2
section
variable {H0 : Hp} {ρ : List Slot} {K : PySem.W.Frag} {f fa fb fc : Bool} {ta tb tc te : TE} {a b c : Bool}
/-! ### tests -/
theorem dt_test (h : DE H0 ρ te fa (aD K (.bool b))) : DT K H0 ρ (tTest te) b := fun σ H Hr Q E k => h σ H Hr _ E fun v H' Hr' x a => by cases a; exact ⟨b, rfl, k H' Hr' x⟩
theorem dt_B (h : DE H0 ρ te fa (aD K (.bool b))) : DT K H0 ρ (tB te) b := fun σ H Hr Q E k => h σ H Hr _ E fun v H' Hr' x a => by cases a; exact ⟨b, rfl, k H' Hr' x⟩
theorem dt_and {t u : TT} (h : DT K H0 ρ t a) (h2 : a = true → DT K H0 ρ u b) : DT K H0 ρ (tAnd t u) (a && b) := fun σ H Hr Q E k => h σ H Hr _ E fun H' Hr' x => by
  cases a with
  | true => rw [if_pos rfl]; exact h2 rfl σ H' Hr' Q (E.ext x) fun H2 Hr2 x2 => k H2 Hr2 (x.trans x2)
  | false => rw [if_neg Bool.false_ne_true]; exact k H' Hr' x
theorem dt_or {t u : TT} (h : DT K H0 ρ t a) (h2 : a = false → DT K H0 ρ u b) : DT K H0 ρ (tOr t u) (a || b) := fun σ H Hr Q E k => h σ H Hr _ E fun H' Hr' x => by
  cases a with
  | true => rw [if_pos rfl]; exact k H' Hr' x
  | false => rw [if_neg Bool.false_ne_true]; exact h2 rfl σ H' Hr' Q (E.ext x) fun H2 Hr2 x2 => k H2 Hr2 (x.trans x2)
theorem dt_not {t : TT} (h : DT K H0 ρ t a) : DT K H0 ρ (tNot t) (!a) := fun σ H Hr Q E k => h σ H Hr _ E fun H' Hr' x => k H' Hr' x
theorem dt_eq {t : TT} (h : DT K H0 ρ t a) (e : a = b) : DT K H0 ρ t b := e ▸ h
theorem de_and (h : DE H0 ρ ta fa (aD K (.bool a))) (h2 : a = true → DE H0 ρ tb fb (aD K (.bool b))) : DE H0 ρ (tAndV ta tb) f (aD K (.bool (a && b))) := fun σ H Hr Q E k => h σ H Hr _ E fun v H' Hr' x q => by
  cases q
  refine ⟨a, rfl, ?_⟩
  cases a with
  | true => rw [if_pos rfl]; exact h2 rfl σ H' Hr' Q (E.ext x) fun v H2 Hr2 x2 q => k v H2 Hr2 (x.trans x2) (dp_sc rfl q)
  | false => rw [if_neg Bool.false_ne_true]; exact k _ H' Hr' x (.bl _)
theorem de_not (h : DE H0 ρ ta fa (aD K (.bool a))) : DE H0 ρ (tNotV ta) f (aD K (.bool (!a))) := fun σ H Hr Q E k => h σ H Hr _ E fun v H' Hr' x q => by
  cases q
  exact ⟨a, rfl, k _ H' Hr' x (.bl _)⟩
/-- a chain of two comparisons of ints -/
theorem de_chI {g g' : Int → Int → Bool} {i j m : Int} (ha : DE H0 ρ ta fa (aD K (.int i))) (hb : DE H0 ρ tb fb (aD K (.int j))) (hc : DE H0 ρ tc fc (aD K (.int m))) :
    DE H0 ρ (tChain (rI0 fun i j => .bl (g i j)) (rI0 fun i j => .bl (g' i j)) ta tb tc) f (aD K (.bool (g i j && g' j m))) := fun σ H Hr Q E k => by
  refine ha σ H Hr _ E fun x H1 Hr1 x1 q1 => hb σ H1 Hr1 _ (E.ext x1) fun y H2 Hr2 x2 q2 => ?_
  cases q1; cases q2
  refine ⟨i, j, rfl, rfl, g i j, rfl, ?_⟩
  cases hg : g i j with
  | true =>
    rw [if_pos rfl]
    refine hc σ H2 Hr2 _ ((E.ext x1).ext x2) fun z H3 Hr3 x3 q3 => ?_
    cases q3
    exact ⟨j, m, rfl, rfl, k _ H3 Hr3 ((x1.trans x2).trans x3) (by rw [hg, Bool.true_and]; exact .bl _)⟩
  | false => rw [if_neg Bool.false_ne_true]; exact k _ H2 Hr2 (x1.trans x2) (by rw [hg, Bool.false_and]; exact .bl _)
/-! ### arguments, displays -/
theorem da_nil : DA H0 ρ tNil f [] := fun σ H Hr Q E k => k [] H Hr (Ext.refl E.sub) .nil
theorem da_cons {t : TA} {A : Abs} {As : List Abs} (h : DE H0 ρ te fa A) (hr : DA H0 ρ t false As) : DA H0 ρ (tCons te t) false (A :: As) := fun σ H Hr Q E k =>
  h σ H Hr _ E fun v H1 Hr1 x1 a1 => hr σ H1 Hr1 _ (E.ext x1) fun vs H2 Hr2 x2 a2 => k _ H2 Hr2 (x1.trans x2) (.cons (A.mono _ _ _ ((hp_sub fa).trans x2.r) a1) a2)
def DAd (H0 : Hp) (K : PySem.W.Frag) (ρ : List Slot) (t : TA) (f : Bool) (ds : List PyData) : Prop :=
  ∀ (σ : St) (H Hr : Hp) (Q : List V → Hp → Prop), EnvOk H0 σ ρ H Hr → (∀ vs H' Hr', Ext H Hr H' Hr' → DpAll K (hp f Hr' H0) vs ds → Q vs H') → t σ H Q
theorem dad_nil : DAd H0 K ρ tNil f [] := fun σ H Hr Q E k => k [] H Hr (Ext.refl E.sub) .nil
theorem dad_cons {t : TA} {d : PyData} {ds : List PyData} (h : DE H0 ρ te f (aD K d)) (hr : DAd H0 K ρ t f ds) : DAd H0 K ρ (tCons te t) f (d :: ds) := fun σ H Hr Q E k =>
  h σ H Hr _ E fun v H1 Hr1 x1 a1 => hr σ H1 Hr1 _ (E.ext x1) fun vs H2 Hr2 x2 a2 => k _ H2 Hr2 (x1.trans x2) (.cons (dp_mono (hp_mono f H0 x2.r) _ _ a1) a2)
theorem dpa_len {H : Hp} : ∀ {vs : List V} {ds : List PyData}, DpAll K H vs ds → vs.length = ds.length
  | _, _, .nil => rfl
  | _, _, .cons _ t => by simp [dpa_len t]
theorem dpa_get {H : Hp} : ∀ {vs : List V} {ds : List PyData} {i : Nat} {v : V}, DpAll K H vs ds → vs[i]? = some v → ∃ d, ds[i]? = some d ∧ Dp K H v d
  | _, _, _, _, .nil, e => by simp at e
  | _, _, 0, _, .cons h _, e => by simp at e; subst e; exact ⟨_, rfl, h⟩
  | _, _, i + 1, _, .cons _ t, e => by
    obtain ⟨d, h1, h2⟩ := dpa_get (i := i) t (by simpa using e)
    exact ⟨d, by simpa using h1, h2⟩
theorem dpa_app {H : Hp} : ∀ {vs ws : List V} {ds es : List PyData}, DpAll K H vs ds → DpAll K H ws es → DpAll K H (vs ++ ws) (ds ++ es)
  | _, _, _, _, .nil, h => h
  | _, _, _, _, .cons h t, h' => .cons h (dpa_app t h')
theorem dpa_drop {H : Hp} : ∀ {vs : List V} {ds : List PyData} (n : Nat), DpAll K H vs ds → DpAll K H (vs.drop n) (ds.drop n)
  | _, _, 0, h => h
  | _, _, _ + 1, .nil => .nil
  | _, _, n + 1, .cons _ t => dpa_drop n t
theorem dpa_take {H : Hp} : ∀ {vs : List V} {ds : List PyData} (n : Nat), DpAll K H vs ds → DpAll K H (vs.take n) (ds.take n)
  | _, _, 0, _ => .nil
  | _, _, _ + 1, .nil => .nil
  | _, _, n + 1, .cons h t => .cons h (dpa_take n t)
theorem de_tup {t : TA} {ds : List PyData} (h : DAd H0 K ρ t f ds) (hl : ds.length ≤ 1000 := by first | decide | simp) : DE H0 ρ (tTup t) f (aD K (.tuple ds)) := fun σ H Hr Q E k => h σ H Hr _ E fun vs H1 Hr1 x1 a1 => by
  refine ⟨by rw [dpa_len a1]; exact Nat.le_trans hl (by decide), fun p hn => ?_⟩
  have E1 := E.ext x1
  refine k _ _ _ (x1.trans (Ext.lay x1.s hn)) (.tup (SqT.of (hp_lay f E1.base hn)) (dpa_mono (hp_mono f H0 (Ext.lay x1.s hn).r) _ _ a1))
theorem de_lst {t : TA} {ds : List PyData} (h : DAd H0 K ρ t f ds) (hl : ds.length ≤ 1000 := by first | decide | simp) : DE H0 ρ (tLst t) f (aD K (.list ds)) := fun σ H Hr Q E k => h σ H Hr _ E fun vs H1 Hr1 x1 a1 => by
  refine ⟨by rw [dpa_len a1]; exact Nat.le_trans hl (by decide), fun p hn => ?_⟩
  have E1 := E.ext x1
  refine k _ _ _ (x1.trans (Ext.lay x1.s hn)) (.lst (SqL.of (hp_lay f E1.base hn)) (dpa_mono (hp_mono f H0 (Ext.lay x1.s hn).r) _ _ a1))
/-! ### items, slices, lengths -/
theorem atI_dp {H : Hp} {xs : List V} {ds : List PyData} {i : Int} {d : PyData} (h : DpAll K H xs ds) (e : atI ds i = some d) : ∃ v, atI xs i = some v ∧ Dp K H v d := by
  unfold atI at e ⊢
  rw [dpa_len h]
  cases q : ixN ds.length i with
  | none => rw [q] at e; cases e
  | some j =>
    rw [q] at e
    have e' : ds[j]? = some d := e
    have hj : j < xs.length := by rw [dpa_len h]; exact (List.getElem?_eq_some_iff.mp e').1
    obtain ⟨d', h1, h2⟩ := dpa_get h (List.getElem?_eq_getElem hj)
    rw [h1] at e'
    cases e'
    exact ⟨xs[j], by show xs[j]? = _; rw [List.getElem?_eq_getElem hj], h2⟩
theorem de_ixL {ds : List PyData} {i : Int} {d : PyData} (ha : DE H0 ρ ta f (aD K (.list ds))) (hb : DE H0 ρ tb fb (aD K (.int i))) (hd : atI ds i = some d) : DE H0 ρ (tOp (rIxL K) ta tb) f (aD K d) := fun σ H Hr Q E k => by
  refine ha σ H Hr _ E fun x H1 Hr1 x1 a1 => hb σ H1 Hr1 _ (E.ext x1) fun y H2 Hr2 x2 a2 => ?_
  cases a2
  cases a1 with
  | lst hs hA =>
    obtain ⟨v, hv, hd'⟩ := atI_dp (dpa_mono (hp_mono f H0 x2.r) _ _ hA) hd
    exact ⟨_, _, i, v, rfl, rfl, ((hp_sub f).trans (x2.r.trans x2.s)).seq hs, hv, k v H2 Hr2 (x1.trans x2) hd'⟩
theorem de_ixT {ds : List PyData} {i : Int} {d : PyData} (ha : DE H0 ρ ta f (aD K (.tuple ds))) (hb : DE H0 ρ tb fb (aD K (.int i))) (hd : atI ds i = some d) : DE H0 ρ (tOp (rIxT K) ta tb) f (aD K d) := fun σ H Hr Q E k => by
  refine ha σ H Hr _ E fun x H1 Hr1 x1 a1 => hb σ H1 Hr1 _ (E.ext x1) fun y H2 Hr2 x2 a2 => ?_
  cases a2
  cases a1 with
  | tup hs hA =>
    obtain ⟨v, hv, hd'⟩ := atI_dp (dpa_mono (hp_mono f H0 x2.r) _ _ hA) hd
    exact ⟨_, _, i, v, rfl, rfl, seqT ((hp_sub f).trans (x2.r.trans x2.s)) hs, hv, k v H2 Hr2 (x1.trans x2) hd'⟩
theorem de_ixS {z : Str} {i : Int} {c : Nat} (ha : DE H0 ρ ta fa (aD K (.str z))) (hb : DE H0 ρ tb fb (aD K (.int i))) (hz : z.length ≤ sizeLine) (hd : atI z.cps.toList i = some c) : DE H0 ρ (tOp rIxS ta tb) f (aD K (.str ⟨#[c]⟩)) :=
  de_op ha hb fun x y Hr H Q _ a b k => by
    cases a; cases b
    exact ⟨z, i, c, rfl, rfl, hz, hd, k _ fun _ => .str _⟩
def DO (K : PySem.W.Frag) (H0 : Hp) (ρ : List Slot) (t : TO) (o : Option Int) : Prop :=
  ∀ (σ : St) (H Hr : Hp) (Q : Option Int → Hp → Prop), EnvOk H0 σ ρ H Hr → (∀ H' Hr', Ext H Hr H' Hr' → Q o H') → t σ H Q
theorem do_no : DO K H0 ρ tNoPart none := fun σ H Hr Q E k => k H Hr (Ext.refl E.sub)
theorem do_so {i : Int} (h : DE H0 ρ te fa (aD K (.int i))) : DO K H0 ρ (tPart te) (some i) := fun σ H Hr Q E k => h σ H Hr _ E fun v H1 Hr1 x a => by cases a; exact ⟨i, rfl, k H1 Hr1 x⟩
def cutD {α : Type} (xs : List α) (lo hi : Option Int) : List α := (xs.drop (HT.sIx xs.length 0 lo)).take (HT.sIx xs.length xs.length hi - HT.sIx xs.length 0 lo)
theorem de_sl {ds : List PyData} {tl th : TO} {lo hi : Option Int} (h : DE H0 ρ te f (aD K (.list ds))) (hl : DO K H0 ρ tl lo) (hh : DO K H0 ρ th hi) : DE H0 ρ (tSl (rSlL K) te tl th) f (aD K (.list (cutD ds lo hi))) := fun σ H Hr Q E k => by
  refine h σ H Hr _ E fun v H1 Hr1 x1 a1 => hl σ H1 Hr1 _ (E.ext x1) fun H2 Hr2 x2 => hh σ H2 Hr2 _ ((E.ext x1).ext x2) fun H3 Hr3 x3 => ?_
  cases a1 with
  | @lst a xs _ hs hA =>
    have x23 := x2.trans x3
    have E3 := ((E.ext x1).ext x2).ext x3
    refine ⟨_, _, rfl, ((hp_sub f).trans (x23.r.trans x23.s)).seq hs, fun p hn => ?_⟩
    refine k _ _ _ ((x1.trans x23).trans (Ext.lay x3.s hn)) (.lst (SqL.of (hp_lay f E3.base hn)) ?_)
    have hA' := dpa_mono (hp_mono f H0 (x23.r.trans (Ext.lay (o := .lst (cutV xs lo hi)) x3.s hn).r)) _ _ hA
    show DpAll K _ (cutV xs lo hi) _
    have e : cutD ds lo hi = (ds.drop (HT.sIx xs.length 0 lo)).take (HT.sIx xs.length xs.length hi - HT.sIx xs.length 0 lo) := by unfold cutD; rw [dpa_len hA]
    rw [e]
    exact dpa_take _ (dpa_drop _ hA')
theorem de_slf {ds : List PyData} {tl th : TO} {lo hi : Option Int} (h : DE H0 ρ te fa (aD K (.list ds))) (hl : DO K H0 ρ tl lo) (hh : DO K H0 ρ th hi) (hf : ds.all scD = true) : DE H0 ρ (tSl (rSlL K) te tl th) f (aD K (.list (cutD ds lo hi))) := fun σ H Hr Q E k => by
  refine h σ H Hr _ E fun v H1 Hr1 x1 a1 => hl σ H1 Hr1 _ (E.ext x1) fun H2 Hr2 x2 => hh σ H2 Hr2 _ ((E.ext x1).ext x2) fun H3 Hr3 x3 => ?_
  cases a1 with
  | @lst a xs _ hs hA =>
    have x23 := x2.trans x3
    have E3 := ((E.ext x1).ext x2).ext x3
    refine ⟨_, _, rfl, ((hp_sub fa).trans (x23.r.trans x23.s)).seq hs, fun p hn => ?_⟩
    refine k _ _ _ ((x1.trans x23).trans (Ext.lay x3.s hn)) (.lst (SqL.of (hp_lay f E3.base hn)) ?_)
    have hA' := dpa_sc (H' := hp f (upd Hr3 p (.lst (cutV xs lo hi))) H0) hf hA
    show DpAll K _ (cutV xs lo hi) _
    have e : cutD ds lo hi = (ds.drop (HT.sIx xs.length 0 lo)).take (HT.sIx xs.length xs.length hi - HT.sIx xs.length 0 lo) := by unfold cutD; rw [dpa_len hA]
    rw [e]
    exact dpa_take _ (dpa_drop _ hA')
theorem de_len {d : PyData} {n : Nat} (h : DE H0 ρ te fa (aD K d)) (hn : (match d with | .list ds => n = ds.length | .tuple ds => n = ds.length | .str z => z.length ≤ sizeLine ∧ n = z.length | _ => False)) :
    DE H0 ρ (tCB (fun xs H Q => ∃ x n, xs = [x] ∧ LenV K x H n ∧ Q (.int n) H) (tCons te tNil)) f (aD K (.int n)) := fun σ H Hr Q E k => h σ H Hr _ E fun v H1 Hr1 x1 a1 => by
  refine ⟨v, n, rfl, ?_, k _ H1 Hr1 x1 (.int _)⟩
  cases a1 with
  | non => exact hn.elim
  | bl _ => exact hn.elim
  | int _ => exact hn.elim
  | str x => exact hn
  | lst hs hA => exact .inl ⟨_, ((hp_sub fa).trans x1.s).seq hs, by rw [dpa_len hA]; exact hn⟩
  | tup hs hA => exact .inr ⟨_, seqT ((hp_sub fa).trans x1.s) hs, by rw [dpa_len hA]; exact hn⟩
theorem de_lenL {ds : List PyData} (h : DE H0 ρ te fa (aD K (.list ds))) : DE H0 ρ (tCB (fun xs H Q => ∃ x n, xs = [x] ∧ LenV K x H n ∧ Q (.int n) H) (tCons te tNil)) f (aD K (.int ds.length)) := de_len h rfl
theorem de_min {i j : Int} (h : DE H0 ρ ta fa (aD K (.int i))) (h2 : DE H0 ρ tb fb (aD K (.int j))) : DE H0 ρ (tCB (fun xs H Q => ∃ i j, xs = [.int i, .int j] ∧ Q (.int (if j < i then j else i)) H) (tCons ta (tCons tb tNil))) f (aD K (.int (if j < i then j else i))) := fun σ H Hr Q E k =>
  h σ H Hr _ E fun v H1 Hr1 x1 a1 => h2 σ H1 Hr1 _ (E.ext x1) fun v2 H2 Hr2 x2 a2 => by
  cases a1; cases a2
  exact ⟨i, j, rfl, k _ H2 Hr2 (x1.trans x2) (.int _)⟩
/-- text * n -/
def rMulS : R2 := fun x y H Q => ∃ z n, x = .str z ∧ y = .int n ∧ MulOk z n ∧ Q (.str (Txt.mul z n)) H
/-! ### lending what is one's own -/
def Bo (H0 : Hp) (ρ ρ' : List Slot) : Prop := ∀ (σ : St) (H Hr : Hp), EnvOk H0 σ ρ H Hr → ∃ Hr', Same Hr Hr' ∧ EnvOk H0 σ ρ' H Hr'
theorem bo_refl : Bo H0 ρ ρ := fun σ H Hr E => ⟨Hr, Same.refl _, E⟩
def oL (K : PySem.W.Frag) (ds : List PyData) : AbsO := ⟨fun _ o H => ∃ xs, o = .lst xs ∧ DpAll K H xs ds, fun _ _ _ _ s ⟨xs, e, h⟩ => ⟨xs, e, dpa_mono s _ _ h⟩⟩
theorem bo_own {i : Nat} {ds : List PyData} (hi : ρ[i]? = some (.own (oL K ds))) : Bo H0 ρ (ρ.set i (.new (aD K (.list ds)))) := fun σ H Hr E => by
  have hl : i < ρ.length := (List.getElem?_eq_some_iff.mp hi).1
  obtain ⟨p, o, e1, e2, e3, e4, xs, e5, e6⟩ := E.slot i _ hi
  subst e5
  have up : Same Hr (upd Hr p (.lst xs)) := fun a u e => by rw [upd_ne (ne_of_none e e3)]; exact e
  refine ⟨upd Hr p (.lst xs), up, E.base, fun a u e => ?_, by simp [E.len], fun j s hs => ?_, fun j k q B B' hjk hj hk ej ek => ?_, E.reg.set1 (fun j n => rfl) (fun A z => by cases z) (fun B z => by cases z) fun a o h1 h2 h3 h4 => ⟨h1, by rw [upd_ne fun z => h4 i _ hi (by rw [z]; exact e1)]; exact h2, h3⟩⟩
  · by_cases z : a = p
    · subst z; rw [upd_same] at e; cases e; exact e4
    · rw [upd_ne z] at e; exact E.sub _ _ e
  · by_cases hj : j = i
    · subst hj
      rw [List.getElem?_set_self hl] at hs
      have e := Option.some.inj hs
      subst e
      refine ⟨_, e1, .lst (SqL.of (mns_some.mpr ⟨e2, upd_same⟩)) (dpa_mono (mns_mono H0 up) _ _ e6)⟩
    · rw [List.getElem?_set_ne (Ne.symm hj)] at hs
      have := E.slot j s hs
      cases s with
      | no => trivial
      | reg A => trivial
      | dat A => obtain ⟨v, g1, g2⟩ := this; exact ⟨v, g1, A.mono _ _ _ up g2⟩
      | new A => obtain ⟨v, g1, g2⟩ := this; exact ⟨v, g1, A.mono _ _ _ (mns_mono H0 up) g2⟩
      | own B =>
        obtain ⟨q, u, g1, g2, g3, g4, g5⟩ := this
        have : q ≠ p := fun z => by subst z; exact E.dis j i q B _ hj hs hi g1 e1
        exact ⟨q, u, g1, g2, by rw [upd_ne this]; exact g3, g4, B.mono _ _ _ _ (mns_mono H0 up) g5⟩
  · have back : ∀ (m : Nat) (B2 : AbsO), (ρ.set i (.new (aD K (.list ds))))[m]? = some (Slot.own B2) → ρ[m]? = some (Slot.own B2) := fun m B2 hm => by
      by_cases z : m = i
      · subst z; rw [List.getElem?_set_self hl] at hm; cases hm
      · rw [List.getElem?_set_ne (Ne.symm z)] at hm; exact hm
    exact E.dis j k q _ _ hjk (back _ _ hj) (back _ _ hk) ej ek
theorem de_bor {ρ' : List Slot} {d : PyData} {g : Bool} (bo : Bo H0 ρ ρ') (h : DE H0 ρ' te f (aD K d)) (hs : scD d = true := by rfl) : DE H0 ρ te g (aD K d) := fun σ H Hr Q E k => by
  obtain ⟨Hr', s, E'⟩ := bo σ H Hr E
  refine h σ H Hr' _ E' fun v H1 Hr1 x1 a1 => k v H1 _ (Ext.call E.sub (Same.refl _) x1.h) (dp_sc hs a1)
theorem dt_bor {ρ' : List Slot} {t : TT} (bo : Bo H0 ρ ρ') (h : DT K H0 ρ' t b) : DT K H0 ρ t b := fun σ H Hr Q E k => by
  obtain ⟨Hr', s, E'⟩ := bo σ H Hr E
  exact h σ H Hr' _ E' fun H1 Hr1 x1 => k H1 _ (Ext.call E.sub (Same.refl _) x1.h)
/-! ### calls of one's own defs -/
abbrev Spec := List Abs → Abs → Prop
def spF (S : Spec) : Sp := fun vs H Q _ => ∃ As R, S As R ∧ AllP As vs H ∧ ∀ v H', Same H H' → R.p v (mns H' H) → Q v H'
theorem de_call {S : Spec} {As : List Abs} {R : Abs} {t : TA} {Ex : XK} {ρ' : List Slot} (bo : Bo H0 ρ ρ') (ha : DA H0 ρ' t false As) (hs : S As R) : DE H0 ρ (tCall (spF S) [] Ex t) f R := fun σ H Hr Q E k => by
  obtain ⟨Hr', s, E'⟩ := bo σ H Hr E
  refine ha σ H Hr' _ E' fun vs H1 Hr1 x1 a1 => ?_
  show spF S (vs ++ []) H1 Q Ex
  rw [List.append_nil]
  refine ⟨As, R, hs, a1.mono x1.s, fun v H2 s2 r2 => k v H2 _ (Ext.call E.sub x1.h s2) ?_⟩
  have r3 := R.mono _ _ _ (joinH_new E.base E.sub x1.h) r2
  cases f
  · exact R.mono _ _ _ mns_sub r3
  · exact r3
/-! ### statements -/
variable {C : WZ} {N N1 : List Slot → Prop} {R : Abs} {t u w : TS}
theorem lt_of {i n : Nat} (h : Nat.blt i n = true) : i < n := Nat.le_of_ble_eq_true h
theorem ds_seq (h : DS C H0 ρ t N1 R) (h2 : ∀ ρ', N1 ρ' → DS C H0 ρ' u N R) : DS C H0 ρ (tSeq t u) N R := fun σ H Hr D E kn kr kx =>
  h σ H Hr _ E (fun ρ' σ' H' Hr' n E' s => h2 ρ' n σ' H' Hr' D E' (fun ρ2 σ2 H2 Hr2 n2 E2 s2 => kn ρ2 σ2 H2 Hr2 n2 E2 (s.trans s2)) (kr.up s) (kx.up s)) kr kx
theorem ds_sq {ρ1 : List Slot} (h : DS C H0 ρ t (fun r => r = ρ1) R) (h2 : DS C H0 ρ1 u N R) : DS C H0 ρ (tSeq t u) N R := ds_seq h fun _ e => e ▸ h2
theorem ds_imp (h : DS C H0 ρ t N1 R) (h2 : ∀ ρ', N1 ρ' → N ρ') : DS C H0 ρ t N R := fun σ H Hr D E kn kr kx => h σ H Hr D E (fun ρ' σ' H' Hr' n E' s => kn ρ' σ' H' Hr' (h2 _ n) E' s) kr kx
theorem ds_next (h : N ρ) : DS C H0 ρ tNext N R := fun σ H Hr D E kn kr kx => kn ρ σ H Hr h E (Same.refl _)
theorem ds_skip (h : DS C H0 ρ u N R) : DS C H0 ρ (tSeq tNext u) N R := h
theorem ds_set {i : Nat} {A : Abs} (h : DE H0 ρ te f A) (hi : Nat.blt i ρ.length = true := by rfl) : DS C H0 ρ (tAsg te (gName i)) (fun r => r = ρ.set i (sl f A)) R := fun σ H Hr D E kn kr kx =>
  h σ H Hr _ E fun v H1 Hr1 x1 a1 => kn _ _ _ Hr1 rfl ((E.ext x1).set (lt_of hi) a1) x1.r
theorem ds_own {i : Nat} (hi : Nat.blt i ρ.length = true := by rfl) : DS C H0 ρ (tAsg (tLst tNil) (gName i)) (fun r => r = ρ.set i (.own (oL K []))) R := fun σ H Hr D E kn kr kx =>
  ⟨by decide, fun p hn => kn _ _ _ Hr rfl (E.lay (lt_of hi) hn ⟨[], rfl, .nil⟩) (Same.refl _)⟩
theorem ds_app {i : Nat} {ds : List PyData} {d : PyData} (hi : ρ[i]? = some (.own (oL K ds))) (h : DE H0 ρ te true (aD K d)) (hl : ds.length < 100000) : DS C H0 ρ (tDrop (tBM K "list" rAppend (tVar i) (tCons te tNil))) (fun r => r = ρ.set i (.own (oL K (ds ++ [d])))) R := fun σ H Hr D E kn kr kx => by
  obtain ⟨p, o, e1, e2, e3, e4, xs, e5, e6⟩ := E.slot i _ hi
  subst e5
  refine ⟨_, e1, .inl ⟨rfl, _, SqL.of e4⟩, h σ H Hr _ E fun v H1 Hr1 x1 a1 => ?_⟩
  have E1 := E.ext x1
  refine ⟨p, xs, v, rfl, rfl, x1.h _ _ e4, ?_, kn _ _ _ Hr1 rfl (E1.wr hi e1 ⟨_, rfl, dpa_app (dpa_mono (mns_mono H0 x1.r) _ _ e6) (.cons a1 .nil)⟩) x1.r⟩
  rw [dpa_len e6]
  exact Nat.lt_trans hl (by rw [sizeLine_eq]; decide)
theorem ds_drop {A : Abs} (h : DE H0 ρ te f A) : DS C H0 ρ (tDrop te) (fun r => r = ρ) R := fun σ H Hr D E kn kr kx => h σ H Hr _ E fun v H1 Hr1 x1 a1 => kn _ _ _ Hr1 rfl (E.ext x1) x1.r
theorem ds_if {ct : TT} {a : Bool} (h : DT K H0 ρ ct a) (h1 : a = true → DS C H0 ρ t N R) (h2 : a = false → DS C H0 ρ u N R) : DS C H0 ρ (tIfS ct t u) N R := fun σ H Hr D E kn kr kx => h σ H Hr _ E fun H1 Hr1 x1 => by
  cases a with
  | true => rw [if_pos rfl]; exact h1 rfl σ H1 Hr1 D (E.ext x1) (fun ρ' σ' H' Hr' n E' s => kn ρ' σ' H' Hr' n E' (x1.r.trans s)) (kr.up x1.r) (kx.up x1.r)
  | false => rw [if_neg Bool.false_ne_true]; exact h2 rfl σ H1 Hr1 D (E.ext x1) (fun ρ' σ' H' Hr' n E' s => kn ρ' σ' H' Hr' n E' (x1.r.trans s)) (kr.up x1.r) (kx.up x1.r)
theorem ds_ifs {ct : TT} {a : Bool} (h : DT K H0 ρ ct a) (h1 : a = true → DS C H0 ρ (tSeq t w) N R) (h2 : a = false → DS C H0 ρ (tSeq u w) N R) : DS C H0 ρ (tSeq (tIfS ct t u) w) N R :=
  fun σ H Hr D E kn kr kx => ds_if (C := C) (t := tSeq t w) (u := tSeq u w) h h1 h2 σ H Hr D E kn kr kx
theorem ds_ret {A : Abs} (h : DE H0 ρ te true A) (hR : ∀ v G, A.p v G → R.p v G) : DS C H0 ρ (tRet te) N R := fun σ H Hr D E kn kr kx => h σ H Hr _ E fun v H1 Hr1 x1 a1 => kr v H1 (E.base.trans x1.h) (x1.r.trans x1.s) (hR _ _ (A.mono _ _ _ (mns_mono H0 x1.s) a1))
theorem ds_rets {A : Abs} (h : DE H0 ρ te true A) (hR : ∀ v G, A.p v G → R.p v G) : DS C H0 ρ (tSeq (tRet te) u) N R := fun σ H Hr D E kn kr kx => ds_ret (C := C) (N := fun _ => False) h hR σ H Hr { D with nx := u D } E (fun _ _ _ _ n _ _ => n.elim) kr kx
end
end Kj

set_option Elab.async false
set_option linter.all false
set_option maxRecDepth 100000
set_option maxHeartbeats 4000000
namespace Kj
open PySem L2
section
variable {C : WZ} {H0 : Hp} {ρ : List Slot} {K : PySem.W.Frag} {f fa fb fc : Bool} {ta tb tc te : TE} {a b c : Bool} {N N1 : List Slot → Prop} {R : Abs} {t u w : TS}
theorem ds_while {ct : TT} {tb : TS} (I : Nat → List Slot → Prop) (m0 : Nat) (h0 : I m0 ρ)
    (hs : ∀ m r, I m r → ∃ b, DT K H0 r ct b ∧ (b = true → DS C H0 r tb (fun r' => ∃ m', m' < m ∧ I m' r') R) ∧ (b = false → N r)) : DS C H0 ρ (tWhile ct tb) N R := fun σ H Hr D E kn kr kx => by
  refine ⟨fun m σ' H' => ∃ r Hr', I m r ∧ EnvOk H0 σ' r H' Hr' ∧ Same Hr Hr', ⟨m0, ρ, Hr, h0, E, Same.refl _⟩, ?_⟩
  rintro m σ' H' ⟨r, Hr', i', E', s⟩
  obtain ⟨b, dt, h1, h2⟩ := hs m r i'
  refine dt σ' H' Hr' _ E' fun H1 Hr1 x1 => ?_
  cases b with
  | true =>
    rw [if_pos rfl]
    refine ⟨fun σ2 H2 => ∃ m', m' < m ∧ ∃ r Hr', I m' r ∧ EnvOk H0 σ2 r H2 Hr' ∧ Same Hr Hr', fun _ _ q => q, h1 rfl σ' H1 Hr1 _ (E'.ext x1) (fun r2 σ2 H2 Hr2 n2 E2 s2 => ?_) (kr.up (s.trans x1.r)) (kx.up (s.trans x1.r))⟩
    obtain ⟨m', lt, i2⟩ := n2
    exact ⟨m', lt, r2, Hr2, i2, E2, (s.trans x1.r).trans s2⟩
  | false =>
    rw [if_neg Bool.false_ne_true]
    exact kn r σ' H1 Hr1 (h2 rfl) (E'.ext x1) (s.trans x1.r)
/-- what is one's own is lent for good -/
theorem ds_bor {ρ' : List Slot} (bo : Bo H0 ρ ρ') (h : DS C H0 ρ' t N R) : DS C H0 ρ t N R := fun σ H Hr D E kn kr kx => by
  obtain ⟨Hr', s, E'⟩ := bo σ H Hr E
  exact h σ H Hr' D E' (fun r2 σ2 H2 Hr2 n2 E2 s2 => kn r2 σ2 H2 Hr2 n2 E2 (s.trans s2)) (kr.up s) (kx.up s)
/-! ### isinstance -/
def tyN : PyData → String
  | .none => "NoneType" | .bool _ => "bool" | .int _ => "int" | .str _ => "str" | .list _ => "list" | .tuple _ => "tuple" | .dict _ => "dict"
theorem sq_tyL {H : Hp} {p : Addr} {xs : List V} (h : SqL K H p xs) : TyX K H (.ref p) (.type "list") := by
  rcases h with (h | ⟨o, h⟩) | ⟨o, its, n, h1, h2, _⟩
  · exact .base (.lst h)
  · exact .base (.frz h)
  · exact .kList h1 h2
theorem sq_tyT {H : Hp} {p : Addr} {xs : List V} (h : SqT K H p xs) : TyX K H (.ref p) (.type "tuple") := by
  rcases h with (h | ⟨o, h⟩) | ⟨o, its, n, h1, h2, _⟩
  · exact .base (.tup h)
  · exact .fTuple h
  · exact .kTuple h1 h2
theorem dp_ty {H : Hp} {v : V} {d : PyData} (h : Dp K H v d) : TyX K H v (.type (tyN d)) := by
  cases h with
  | non => exact .base .non
  | bl b => exact .base (.bl b)
  | int i => exact .base (.int i)
  | str x => exact .base (.str x)
  | lst hs _ => exact sq_tyL hs
  | tup hs _ => exact sq_tyT hs
theorem ty_mono {H H' : Hp} {v : V} {d : PyData} (s : Same H H') (h : Dp K H v d) : TyX K H' v (.type (tyN d)) := dp_ty (dp_mono s _ _ h)
theorem de_isi {d : PyData} {T : String} (h : DE H0 ρ te fa (aD K d)) (hk : kitB (tyN d) T = some b) : DE H0 ρ (tCB (rIsi K) (tCons te (tCons (tC (.ty T)) tNil))) f (aD K (.bool b)) := fun σ H Hr Q E k => h σ H Hr _ E fun v H1 Hr1 x1 a1 =>
  ⟨v, .ty T, _, .type T, b, rfl, .ty T, ty_mono ((hp_sub fa).trans x1.s) a1, kit_ty hk, k _ H1 Hr1 x1 (.bl _)⟩
theorem de_isi2 {d : PyData} {T U : String} {b1 b2 : Bool} (h : DE H0 ρ te fa (aD K d)) (hk : kitB (tyN d) T = some b1) (hk2 : kitB (tyN d) U = some b2) :
    DE H0 ρ (tCB (rIsiT K) (tCons te (tCons (tTup (tCons (tC (.ty T)) (tCons (tC (.ty U)) tNil))) tNil))) f (aD K (.bool (b1 || b2))) := fun σ H Hr Q E k => h σ H Hr _ E fun v H1 Hr1 x1 a1 => by
  refine ⟨(show 2 ≤ sizeLine by decide), fun p hn => ?_⟩
  have x2 : Ext H1 Hr1 (upd H1 p (.tup [.ty T, .ty U])) (upd Hr1 p (.tup [.ty T, .ty U])) := Ext.lay x1.s hn
  refine ⟨v, p, [.ty T, .ty U], _, [.type T, .type U], b1 || b2, rfl, upd_same, .cons (.ty T) (.cons (.ty U) .nil), ty_mono (((hp_sub fa).trans x2.r).trans x2.s) a1, ?_, k _ _ _ (x1.trans x2) (.bl _)⟩
  refine kitAny_cons (kit_ty hk) (fun e => ?_) (fun e => by rw [e]; rfl)
  subst e
  refine kitAny_cons (kit_ty hk2) (fun e => ?_) (fun e => by rw [e]; rfl)
  subst e
  exact kitAny_nil
theorem de_eqB {a b : Bool} (ha : DE H0 ρ ta fa (aD K (.bool a))) (hb : DE H0 ρ tb fb (aD K (.bool b))) : DE H0 ρ (tOp rEq ta tb) f (aD K (.bool (decide (a = b)))) := de_op ha hb fun x y Hr H Q _ p q k => by
  cases p; cases q
  exact ⟨rfl, k _ fun _ => by rw [show decide (V.bl a = V.bl b) = decide (a = b) by simp]; exact .bl _⟩
theorem de_neB {a b : Bool} (ha : DE H0 ρ ta fa (aD K (.bool a))) (hb : DE H0 ρ tb fb (aD K (.bool b))) : DE H0 ρ (tOp rNe ta tb) f (aD K (.bool (!decide (a = b)))) := de_op ha hb fun x y Hr H Q _ p q k => by
  cases p; cases q
  exact ⟨rfl, k _ fun _ => by rw [show decide (V.bl a = V.bl b) = decide (a = b) by simp]; exact .bl _⟩
end
/-! ### a def -/
theorem allp_get {H : Hp} : ∀ {As : List Abs} {vs : List V}, AllP As vs H → ∀ (i : Nat) (A : Abs), As[i]? = some A → ∃ v, vs[i]? = some v ∧ A.p v H
  | _, _, .nil, i, A, e => by simp at e
  | _, _, .cons h t, 0, A, e => by simp at e; subst e; exact ⟨_, rfl, h⟩
  | _, _, .cons h t, i + 1, A, e => by simpa using allp_get t i A (by simpa using e)
theorem env_start {H : Hp} : ∀ {As : List Abs} {vs : List V} (n : Nat), AllP As vs H → EnvOk H (vs.map some ++ List.replicate n none) (As.map Slot.dat ++ List.replicate n Slot.no) H H := fun {As vs} n h => by
  have hl := h.length
  have cls : ∀ (i : Nat) (s : Slot), (As.map Slot.dat ++ List.replicate n Slot.no)[i]? = some s → s = .no ∨ ∃ A, s = .dat A ∧ As[i]? = some A := fun i s hs => by
    by_cases hi : i < As.length
    · rw [List.getElem?_append_left (by simpa using hi), List.getElem?_map, List.getElem?_eq_getElem hi] at hs
      exact .inr ⟨As[i], (Option.some.inj hs).symm, List.getElem?_eq_getElem hi⟩
    · rw [List.getElem?_append_right (by simpa using Nat.le_of_not_lt hi)] at hs
      obtain ⟨z, e⟩ := List.getElem?_eq_some_iff.mp hs
      rw [List.getElem_replicate] at e
      exact .inl e.symm
  refine ⟨Same.refl _, Same.refl _, by simp [hl], fun i s hs => ?_, fun i j p B B' _ hi _ _ _ => ?_, .nil fun i A h => by rcases cls i _ h with e | ⟨A, e, _⟩ <;> cases e⟩
  · rcases cls i s hs with rfl | ⟨A, rfl, hA⟩
    · trivial
    · obtain ⟨v, h1, h2⟩ := allp_get h i A hA
      have hi : i < vs.length := (List.getElem?_eq_some_iff.mp h1).1
      exact ⟨v, by rw [List.getElem?_append_left (by simpa using hi), List.getElem?_map, h1]; rfl, h2⟩
  · rcases cls i _ hi with e | ⟨A, e, _⟩ <;> cases e
section
variable {P : Program} {w : World} {K : PySem.W.Frag} {mg : Str → Option Value} {base : Heap}
/-- the law itself: it hands back True -/
def spL (K : PySem.W.Frag) : Sp := fun vs H Q _ => ∃ (a : Addr) (ns : List Int), vs = [.ref a] ∧ SqL K H a (ns.map V.int) ∧ ns.length ≤ 63 ∧ ∀ H', Q (.bl true) H'
theorem dpa_ints {H : Hp} : ∀ ns : List Int, DpAll K H (ns.map V.int) (ns.map PyData.int)
  | [] => .nil
  | n :: ns => .cons (.int n) (dpa_ints ns)
end
end Kj

set_option Elab.async false
set_option linter.all false
set_option maxRecDepth 100000
set_option maxHeartbeats 4000000
namespace Kj
open PySem L2
/-- a def that stands under its name -/
def DefAt (P : Program) (w : World) (K : PySem.W.Frag) (mg : Str → Option Value) (base : Heap) (name : Str) (k : Nat) (ps : List Str) (sp : Sp) : Prop :=
  ∃ f fd, mg name = some (.ref f) ∧ PySem.W.keepIn K (.ref f) = true ∧ Binds K fd ps [] ∧ FnOk P w K mg base CX0 k f fd ps sp
theorem pe_callD {X : Cx} {k : Nat} {ps : List Str} {sp : Sp} {x : Str} {p pos : Pos} {e : Expr} {es : List Expr} {t : TA} (D : DefAt X.prog X.w X.K X.mg X.base x k ps sp) (hr : Room k X.A) (hg : Gl X x)
    (ha : PA X (e :: es) t) (hdb : (x == ("__debug__" : Str)) = false := by decide) (he : starEach (e :: es) X.env = (false, eval e X.env) :: starEach es X.env := by rfl) (hpl : (backTo pos (starEach es X.env)).any (·.1) = false := by rfl) :
    PE X (.Call (.Name x p) (e :: es) [] pos) (tCall sp [] E0 t) := by
  obtain ⟨f, fd, h1, h2, h3, h4⟩ := D
  exact pe_call h4 hr hg h1 h2 h3 .nil pass0 ha hdb he hpl
/-- one of many, by what is true of it -/
def aEx {α : Type} (P : α → Prop) (g : α → Abs) : Abs := ⟨fun v H => ∃ x, P x ∧ (g x).p v H, fun v H H' s ⟨x, h, q⟩ => ⟨x, h, (g x).mono _ _ _ s q⟩⟩
end Kj
namespace Kj
open PySem L2 PyProof.Rows
def CDivZ (_ j : Int) : Prop := j ≠ 0 ∧ j.natAbs.log2 < 9000
theorem atI_some {α : Type} {xs : List α} {i : Int} (h0 : 0 ≤ i) (h1 : i < xs.length) : atI xs i = some (xs[i.toNat]'(by omega)) := by
  unfold atI ixN
  rw [if_pos h0, if_pos h1]
  show xs[i.toNat]? = _
  rw [List.getElem?_eq_getElem]
theorem atI_map {α β : Type} {xs : List α} {g : α → β} {i : Int} (h0 : 0 ≤ i) (h1 : i < xs.length) : atI (xs.map g) i = some (g (xs[i.toNat]'(by omega))) := by
  rw [atI_some h0 (by simpa using h1)]
  simp
theorem cutD_map {α β : Type} (g : α → β) (xs : List α) (lo hi : Option Int) : cutD (xs.map g) lo hi = (cutD xs lo hi).map g := by
  unfold cutD
  rw [List.length_map, List.map_take, List.map_drop]
theorem sIx_nn (n d : Nat) {v : Int} (h : 0 ≤ v) : HT.sIx n d (some v) = min v.toNat n := by
  show (if v < 0 then (v + (n : Int)).toNat else min v.toNat n) = _
  rw [if_neg (by omega)]
theorem cutD_to {α : Type} (xs : List α) {n : Int} (h : 0 ≤ n) : cutD xs none (some n) = xs.take n.toNat := by
  unfold cutD
  rw [sIx_nn _ _ h, HT.sIx_none, List.drop_zero, Nat.sub_zero]
  by_cases h2 : n.toNat ≤ xs.length
  · rw [Nat.min_eq_left h2]
  · rw [Nat.min_eq_right (by omega), List.take_of_length_le (Nat.le_refl _), List.take_of_length_le (by omega)]
theorem cutD_from {α : Type} (xs : List α) {n : Int} (h : 0 ≤ n) : cutD xs (some n) none = xs.drop n.toNat := by
  unfold cutD
  rw [sIx_nn _ _ h, HT.sIx_none]
  by_cases h2 : n.toNat ≤ xs.length
  · rw [Nat.min_eq_left h2, List.take_of_length_le (by simp)]
  · rw [Nat.min_eq_right (by omega), List.take_of_length_le (by simp), List.drop_eq_nil_of_le (Nat.le_refl _), List.drop_eq_nil_of_le (by omega)]
end Kj

set_option Elab.async false
set_option linter.all false
set_option maxRecDepth 100000
set_option maxHeartbeats 4000000
namespace Kj
open PySem L2
abbrev FnP (K : PySem.W.Frag) (x qual : Str) (st : Stmt) (f : Addr) (fd : FuncData) : Prop := FunD K x qual (defArgs st) (defBody st) (defScope st) [] [] f fd
section
variable {P : Program} {w : World} {K : PySem.W.Frag} {mg : Str → Option Value} {base : Heap}
theorem fnD_ok {x qual : Str} {st : Stmt} {f : Addr} {fd : FuncData} {N ps : List Str} {k : Nat} {S : Spec} (F : FnP K x qual st f fd) (Sc : FnScope N ps (defScope st)) (len : ∀ As R, S As R → As.length = ps.length)
    (body : ∀ (cdv : Value) (A : Around) (outer : List Env) (s : Shared) (H : Hp) (E : XK), Room k (A.deeper (PyProof.Rows.envOfC qual (defScope st) s.heap.objs.size f cdv)) → ∀ As R, S As R →
      ∃ t, PSs (cxOf CX0 P w K mg base N qual (defScope st) f cdv A outer s H E).nox (defBody st) t ∧ ∀ H0, DS C0 H0 (As.map Slot.dat ++ List.replicate (N.length - As.length) Slot.no) t (fun _ => False) R) : FnOk P w K mg base CX0 (k + 1) f fd ps (spF S) := by
  refine F.ok Sc (fun vs H Q E h => ?_) (fun cdv A outer s H vs Q E hr h => ?_)
  · obtain ⟨As, R, h1, h2, _⟩ := h
    rw [← h2.length]; exact len As R h1
  · obtain ⟨As, R, h1, h2, h3⟩ := h
    obtain ⟨t, p, d⟩ := body cdv A outer s H E hr As R h1
    refine ⟨t, p.nox, d H _ H H _ ?_ (fun _ _ _ _ n _ _ => n.elim) (fun v H' s _ r => h3 v H' s r) (KX.no fun _ _ _ _ z => z)⟩
    have e := env_start (n := N.length - vs.length) h2
    unfold L2.start
    rw [h2.length]
    exact e
theorem lawD_ok {x qual : Str} {st : Stmt} {f : Addr} {fd : FuncData} {N : List Str} {p : Str} {k : Nat} (F : FnP K x qual st f fd) (Sc : FnScope N [p] (defScope st))
    (body : ∀ (cdv : Value) (A : Around) (outer : List Env) (s : Shared) (H : Hp) (E : XK), Room k (A.deeper (PyProof.Rows.envOfC qual (defScope st) s.heap.objs.size f cdv)) → ∀ ns : List Int, ns.length ≤ 63 →
      ∃ t, PSs (cxOf CX0 P w K mg base N qual (defScope st) f cdv A outer s H E).nox (defBody st) t ∧ ∀ H0, DS C0 H0 (Slot.dat (aD K (.list (ns.map .int))) :: List.replicate (N.length - 1) Slot.no) t (fun _ => False) (aD K (.bool true))) : FnOk P w K mg base CX0 (k + 1) f fd [p] (spL K) := by
  refine F.ok Sc (fun vs H Q E h => ?_) (fun cdv A outer s H vs Q E hr h => ?_)
  · obtain ⟨a, ns, rfl, _⟩ := h
    rfl
  · obtain ⟨a, ns, rfl, h1, h2, h3⟩ := h
    obtain ⟨t, p, d⟩ := body cdv A outer s H E hr ns h2
    refine ⟨t, p.nox, d H _ H H _ ?_ (fun _ _ _ _ n _ _ => n.elim) (fun v H' s _ r => by cases r; exact h3 H') (KX.no fun _ _ _ _ z => z)⟩
    exact env_start (As := [aD K (.list (ns.map .int))]) (vs := [.ref a]) (n := N.length - 1) (.cons (Dp.lst h1 (dpa_ints ns)) .nil)
theorem defAt {x qual name : Str} {st : Stmt} {f : Addr} {fd : FuncData} {k : Nat} {ps : List Str} {sp : Sp} (F : FnP K x qual st f fd) (hg : mg name = some (.ref f)) (G : FnOk P w K mg base CX0 k f fd ps sp)
    (h : ∀ (kV doc pm : Value) (an : Option Addr) (cdv ct : Value) (us : List Value), us.length = ps.length → bindArgs (PySem.W.fnOf x qual (defArgs st) (defBody st) (defScope st) .none kV doc pm an cdv ct) ⟨us, []⟩ = pure (ps.zip us)) : DefAt P w K mg base name k ps sp :=
  ⟨f, fd, hg, F.kp, F.bindsN h, G⟩
end
section
variable {C : WZ} {H0 : Hp} {ρ : List Slot} {K : PySem.W.Frag} {f fa fb fc : Bool} {ta tb tc te : TE} {a b c : Bool} {N N1 : List Slot → Prop} {R : Abs} {t u w : TS}
end
end Kj

set_option Elab.async false
set_option linter.all false
set_option maxRecDepth 100000
set_option maxHeartbeats 4000000
/-! Kj6: what is raised. -/
namespace Kj
open PySem L2
def xNo (C : Addr) : XA := fun cls d _ => cls = .ref C ∧ d = none
inductive Out where
  | ret (R : Abs)
  | exc (X : XA)
abbrev SpecX := List Abs → Out → Prop
def spX (S : SpecX) : Sp := fun vs H Q E => ∃ As O, S As O ∧ AllP As vs H ∧ match O with
  | .ret R => ∀ v H', Same H H' → R.p v (mns H' H) → Q v H'
  | .exc X => ∀ cls d H', Same H H' → X cls d H' → E cls d H'
/-- a def that may raise, where it does not -/
theorem FnOk.calm {P : Program} {w : World} {K : PySem.W.Frag} {mg : Str → Option Value} {base : Heap} {k : Nat} {f : Addr} {fd : FuncData} {ps : List Str} {S : SpecX} (F : FnOk P w K mg base (L2.CX P w) k f fd ps (spX S)) :
    FnOk P w K mg base CX0 k f fd ps (spF fun As R => S As (.ret R)) := by
  refine ⟨fun vs H Q E h => ?_, fun A outer s H args us vs Q E hr he hb hv hs => ?_⟩
  · obtain ⟨As, R, h1, h2, h3⟩ := h
    exact F.len vs H Q E ⟨As, .ret R, h1, h2, h3⟩
  · obtain ⟨As, R, h1, h2, h3⟩ := hs
    refine codeAny_mono (F.run A outer s H args us vs Q E0 hr he hb hv ⟨As, .ret R, h1, h2, h3⟩) fun r s' q => ?_
    cases r with
    | ok fl => cases fl <;> exact q
    | error e =>
      obtain ⟨_, _, _, _, _, _, _, _, _, _, _, _, z⟩ := q
      exact z.elim
def RE (W : WX) (H0 : Hp) (ρ : List Slot) (t : TE) (X : XA) : Prop :=
  ∀ (σ : St) (H Hr : Hp) (Q : VK), EnvOk H0 σ ρ H Hr → (∀ cls d H' Hr', Ext H Hr H' Hr' → X cls d H' → W cls d σ H') → t σ H Q
section
variable {W : WX} {H0 : Hp} {ρ : List Slot} {K : PySem.W.Frag} {f fa fb : Bool} {ta tb te : TE} {a b : Bool} {N N1 : List Slot → Prop} {R : Abs} {t u w : TS} {Z : List Slot → XA} {X : XA}
theorem de_callS {S : SpecX} {As : List Abs} {R : Abs} {t : TA} {Ex : St → XK} {ρ' : List Slot} (bo : Bo H0 ρ ρ') (ha : DA H0 ρ' t false As) (hs : S As (.ret R)) : DE H0 ρ (tCallS (spX S) Ex t) f R := fun σ H Hr Q E k => by
  obtain ⟨Hr', s, E'⟩ := bo σ H Hr E
  refine ha σ H Hr' _ E' fun vs H1 Hr1 x1 a1 => ?_
  refine ⟨As, .ret R, hs, a1.mono x1.s, fun v H2 s2 r2 => k v H2 _ (Ext.call E.sub x1.h s2) ?_⟩
  have r3 := R.mono _ _ _ (joinH_new E.base E.sub x1.h) r2
  cases f
  · exact R.mono _ _ _ mns_sub r3
  · exact r3
theorem re_callS {S : SpecX} {As : List Abs} {t : TA} {ρ' : List Slot} (bo : Bo H0 ρ ρ') (ha : DA H0 ρ' t false As) (hs : S As (.exc X)) : RE W H0 ρ (tCallS (spX S) (WE W) t) X := fun σ H Hr Q E k => by
  obtain ⟨Hr', s, E'⟩ := bo σ H Hr E
  refine ha σ H Hr' _ E' fun vs H1 Hr1 x1 a1 => ?_
  exact ⟨As, .exc X, hs, a1.mono x1.s, fun cls d H2 s2 r2 => k cls d H2 _ (Ext.call E.sub x1.h s2) r2⟩
def tTry (K : PySem.W.Frag) (Wout : WX) (l : List (Value × (Addr → Value → Option Addr → TS))) (tb : WX → TS) : TS := fun D σ H => tb (wMany K Wout D l) D σ H
/-- except clauses: which one takes it -/
inductive Hnd (K : PySem.W.Frag) (C : WZ) (H0 : Hp) (N : List Slot → Prop) (R : Abs) : List (Value × (Addr → Value → Option Addr → TS)) → List Slot → Value → Option Addr → Prop
  | here {c : Value} {ts : Addr → Value → Option Addr → TS} {l : List (Value × (Addr → Value → Option Addr → TS))} {ρ : List Slot} {cls : Value} {d : Option Addr} : PySem.W.exmOne K cls c = some true → (∀ a, DS C H0 ρ (ts a cls d) N R) → Hnd K C H0 N R ((c, ts) :: l) ρ cls d
  | next {c : Value} {ts : Addr → Value → Option Addr → TS} {l : List (Value × (Addr → Value → Option Addr → TS))} {ρ : List Slot} {cls : Value} {d : Option Addr} : PySem.W.exmOne K cls c = some false → Hnd K C H0 N R l ρ cls d → Hnd K C H0 N R ((c, ts) :: l) ρ cls d
theorem ds_try {C : WZ} {tb : WX → TS} {l : List (Value × (Addr → Value → Option Addr → TS))} (hb : ∀ W, DS ⟨W, Z⟩ H0 ρ (tb W) N R) (hh : ∀ ρ' cls d H', Z ρ' cls d H' → Hnd K C H0 N R l ρ' cls d) : DS C H0 ρ (tTry K C.W l tb) N R := fun σ H Hr D E kn kr kx => by
  refine hb _ σ H Hr D E kn kr fun ρ' σ' H' Hr' cls d z E' s => ?_
  have q := hh ρ' cls d H' z
  clear hh hb z
  induction q with
  | here h1 h2 => exact ⟨true, h1, fun _ a _ => h2 a σ' H' Hr' D E' (fun ρ2 σ2 H2 Hr2 n2 E2 s2 => kn ρ2 σ2 H2 Hr2 n2 E2 (s.trans s2)) (kr.up s) (kx.up s), fun q => nomatch q⟩
  | next h1 _ ih => exact ⟨false, h1, (fun q => by cases q), fun _ => ih E'⟩
end
def aNo : Abs := ⟨fun _ _ => False, fun _ _ _ _ h => h⟩
abbrev outR : Out → Abs | .ret R => R | .exc _ => aNo
abbrev outZ : Out → List Slot → XA | .ret _ => fun _ _ _ _ => False | .exc X => fun _ => X
section
variable {P : Program} {w : World} {K : PySem.W.Frag} {mg : Str → Option Value} {base : Heap}
theorem fnX_ok {x qual : Str} {st : Stmt} {f : Addr} {fd : FuncData} {N ps : List Str} {k : Nat} {S : SpecX} (F : FnP K x qual st f fd) (Sc : FnScope N ps (defScope st)) (len : ∀ As O, S As O → As.length = ps.length)
    (body : ∀ (cdv : Value) (A : Around) (outer : List Env) (s : Shared) (H : Hp) (E : XK), Room k (A.deeper (PyProof.Rows.envOfC qual (defScope st) s.heap.objs.size f cdv)) →
      ∃ t, PSs (cxOf (L2.CX P w) P w K mg base N qual (defScope st) f cdv A outer s H E) (defBody st) t ∧ ∀ H0 As O, S As O → DS ⟨fun cls d _ H => E cls d H, outZ O⟩ H0 (As.map Slot.dat ++ List.replicate (N.length - As.length) Slot.no) t (fun _ => ∀ G, (outR O).p .non G) (outR O)) : FnOk P w K mg base (L2.CX P w) (k + 1) f fd ps (spX S) := by
  refine F.ok Sc (fun vs H Q E h => ?_) (fun cdv A outer s H vs Q E hr h => ?_)
  · obtain ⟨As, O, h1, h2, _⟩ := h
    rw [← h2.length]; exact len As O h1
  · obtain ⟨As, O, h1, h2, h3⟩ := h
    obtain ⟨t, p, d⟩ := body cdv A outer s H E hr
    have e := env_start (n := N.length - vs.length) h2
    refine ⟨t, p, d H As O h1 _ H H _ ?_ (fun _ _ H' _ n E' _ => ?_) (fun v H' s _ r => ?_) (fun ρ' σ' H' Hr' cls dd z E' s => ?_)⟩
    · unfold L2.start
      rw [h2.length]
      exact e
    · cases O with
      | ret R => exact h3 .non H' E'.base (n _)
      | exc X => exact (n (fun _ => none)).elim
    · cases O with
      | ret R => exact h3 v H' s r
      | exc X => exact r.elim
    · cases O with
      | ret R => exact z.elim
      | exc X => exact h3 cls dd H' E'.base z
def DefAtX (P : Program) (w : World) (K : PySem.W.Frag) (mg : Str → Option Value) (base : Heap) (name : Str) (k : Nat) (ps : List Str) (sp : Sp) : Prop :=
  ∃ f fd, mg name = some (.ref f) ∧ PySem.W.keepIn K (.ref f) = true ∧ Binds K fd ps [] ∧ FnOk P w K mg base (L2.CX P w) k f fd ps sp
theorem DefAtX.calm {name : Str} {k : Nat} {ps : List Str} {S : SpecX} (D : DefAtX P w K mg base name k ps (spX S)) : DefAt P w K mg base name k ps (spF fun As R => S As (.ret R)) := by
  obtain ⟨f, fd, h1, h2, h3, h4⟩ := D
  exact ⟨f, fd, h1, h2, h3, FnOk.calm h4⟩
theorem defAtX {x qual name : Str} {st : Stmt} {f : Addr} {fd : FuncData} {k : Nat} {ps : List Str} {sp : Sp} (F : FnP K x qual st f fd) (hg : mg name = some (.ref f)) (G : FnOk P w K mg base (L2.CX P w) k f fd ps sp)
    (h : ∀ (kV doc pm : Value) (an : Option Addr) (cdv ct : Value) (us : List Value), us.length = ps.length → bindArgs (PySem.W.fnOf x qual (defArgs st) (defBody st) (defScope st) .none kV doc pm an cdv ct) ⟨us, []⟩ = pure (ps.zip us)) : DefAtX P w K mg base name k ps sp :=
  ⟨f, fd, hg, F.kp, F.bindsN h, G⟩
end
theorem pe_callX {X : Cx} {W : WX} {k : Nat} {ps : List Str} {sp : Sp} {x : Str} {p pos : Pos} {e : Expr} {es : List Expr} {t : TA} (D : DefAtX X.prog X.w X.K X.mg X.base x k ps sp) (hr : Room k X.A) (tk : Takes X W) (hg : Gl X x)
    (ha : PA X (e :: es) t) (hdb : (x == ("__debug__" : Str)) = false := by decide) (he : starEach (e :: es) X.env = (false, eval e X.env) :: starEach es X.env := by rfl) (hpl : (backTo pos (starEach es X.env)).any (·.1) = false := by rfl) :
    PE X (.Call (.Name x p) (e :: es) [] pos) (tCallS sp (WE W) t) := by
  obtain ⟨f, fd, h1, h2, h3, h4⟩ := D
  exact pe_callS h4 hr hg h1 h2 h3 (fun σ => passAt tk σ) ha hdb he hpl
theorem ps_tryX {X : Cx} {body : List Stmt} {h₀ : ExceptHandler} {hds : List ExceptHandler} {l : List (Value × (Addr → Value → Option Addr → TS))} {pos : Pos} {tb : WX → TS} {Wout : WX} (hs : X.stack = X.env :: X.outer) (hf : X.env.frame = some X.env.locals) (tk : Takes X Wout)
    (hb : ∀ (W : WX) (pn : List (Addr × Obj)) (xe : Value → Shared → Prop), Takes (X.tr pn xe) W → PassesOwn (model X.prog X.w) X.A X.env xe → PSs (X.tr pn xe) body (tb W))
    (hh : HdsOk X (h₀ :: hds) l) : PS X (.Try body (h₀ :: hds) [] [] pos) (tTry X.K Wout l tb) := ps_try_many hs hf tk hb hh
section
variable {X : Cx} {pn : List (Addr × Obj)} {xe : Value → Shared → Prop}
/-! in the body of a try: the written part is the def's -/
end
/-- what the written part says of an own exception class without __init__ -/
structure ExcT (K : PySem.W.Frag) (mg : Str → Option Value) (x : Str) (C : Addr) : Prop where
  g : mg x = some (.ref C)
  e : PySem.W.excIn K C He.veBase "ValueError.__new__" = true
  k : PySem.W.keepIn K (.ref C) = true
  b : PySem.W.subIn K (.ref C) (.type "BaseException") = some true
  t : PySem.W.typeIn K (.ref C) = some (.type "type")
theorem ps_raiseX {X : Cx} {W : WX} {x m : Str} {j : Nat} {p p2 pos pos2 : Pos} {C : Addr} (T : ExcT X.K X.mg x C) (hc : X.calm = true) (tk : Takes X W) (hg : Gl X x) (hdb : (x == ("__debug__" : Str)) = false := by decide) :
    PS X (.Raise (some (.Call (.Name x p) [.Constant (.str m) j p2] [] pos)) none pos2) (fun _ σ H => W (.ref C) none σ H) :=
  ps_raise (t := fun _ H Q => Q (.ref C) none H) hc tk (pmk_own PySem.F.excBase_ValueError T.e T.g T.k (raises_own T.b T.t) hg hdb)
end Kj

set_option Elab.async false
set_option linter.all false
set_option maxRecDepth 100000
set_option maxHeartbeats 4000000
/-! Kj7: walks, comprehensions. -/
namespace Kj
open PySem L2
/-! ### what a loop walks -/
def Wk (H0 : Hp) (J : It) (n : Nat) (f : Bool) (As : Nat → Abs) (Hr : Hp) : Prop :=
  ∀ H Hr', Same Hr Hr' → Same Hr' H → Same H0 H →
    (∀ i, i < n → J.go i H ∧ ∀ x H', J.yld i H x H' → ∃ Hr'', Ext H Hr' H' Hr'' ∧ (As i).p x (hp f Hr'' H0)) ∧ J.stop n H
def DW (H0 : Hp) (ρ : List Slot) (wi : TI) (n : Nat) (f : Bool) (As : Nat → Abs) : Prop :=
  ∀ (σ : St) (H Hr : Hp) (R : It → Hp → Prop), EnvOk H0 σ ρ H Hr → (∀ J H' Hr', Ext H Hr H' Hr' → Wk H0 J n f As Hr' → R J H') → wi σ H R
/-- a target -/
def DG (H0 : Hp) (ρ : List Slot) (g : TG) (f : Bool) (A : Abs) (ρ' : List Slot) (vs : List Nat) : Prop :=
  ∀ (σ : St) (H Hr : Hp) (v : V) (Q : St → Hp → Prop), EnvOk H0 σ ρ H Hr → A.p v (hp f Hr H0) → (∀ σ', EnvOk H0 σ' ρ' H Hr → wipe σ' vs = wipe σ vs → Q σ' H) → g v σ H Q
theorem wipe_set {i : Nat} {x : Option V} : ∀ {vs : List Nat} {σ : St}, i ∈ vs → wipe (σ.set i x) vs = wipe σ vs := fun {vs σ} h => by
  apply List.ext_getElem?
  intro j
  by_cases hj : j ∈ vs
  · have a : ∀ τ : St, τ.length = σ.length → (wipe τ vs)[j]? = if j < σ.length then some none else none := fun τ hτ => by
      clear h
      induction vs with
      | nil => cases hj
      | cons v vs ih =>
        unfold wipe
        by_cases e : v = j
        · subst e
          by_cases hl : v < σ.length
          · rw [List.getElem?_set_self (by rw [wipe_length, hτ]; exact hl), if_pos hl]
          · rw [if_neg hl, List.getElem?_eq_none (by rw [List.length_set, wipe_length, hτ]; omega)]
        · rw [List.getElem?_set_ne e]
          exact ih (by rcases List.mem_cons.mp hj with h | h; exact absurd h.symm e; exact h)
    rw [a _ (by simp), a _ rfl]
  · rw [wipe_out hj, wipe_out hj, List.getElem?_set_ne (fun e => hj (by rw [← e]; exact h))]
section
variable {C : WZ} {H0 : Hp} {ρ : List Slot} {K : PySem.W.Frag} {f fa fb fc : Bool} {ta tb tc te : TE} {a b c : Bool} {N N1 : List Slot → Prop} {R : Abs} {t u w : TS}
theorem dw_list {ds : List PyData} {tl : TE} (h : DE H0 ρ tl f (aD K (.list ds))) : DW H0 ρ (iList K tl) ds.length f (fun i => aD K (ds.getD i .none)) := fun σ H Hr R E k => by
  refine h σ H Hr _ E fun v H1 Hr1 x1 a1 => ?_
  cases a1 with
  | @lst a xs _ hq hA =>
    refine ⟨a, rfl, ⟨xs, ((hp_sub f).trans x1.s).seq hq⟩, k _ H1 Hr1 x1 fun G Gr s1 s2 s3 => ?_⟩
    have q : SqL K G a xs := ((hp_sub f).trans (s1.trans s2)).seq hq
    have hl := dpa_len hA
    refine ⟨fun i hi => ⟨⟨xs, xs[i]'(by omega), q, List.getElem?_eq_getElem _⟩, ?_⟩, ⟨xs, q, by omega⟩⟩
    rintro x G' ⟨rfl, hx⟩
    obtain ⟨d, e1, e2⟩ := dpa_get hA (hx xs q)
    refine ⟨Gr, Ext.refl s2, ?_⟩
    show Dp K _ x (ds.getD i .none)
    rw [List.getD_eq_getElem?_getD, e1]
    exact dp_mono (hp_mono f H0 s1) _ _ e2
theorem dw_str {z : Str} (h : DE H0 ρ te fa (aD K (.str z))) : DW H0 ρ (iStr te) z.cps.size f (fun i => aD K (.str ⟨#[z.cps.getD i 0]⟩)) := fun σ H Hr R E k => by
  refine h σ H Hr _ E fun v H1 Hr1 x1 a1 => ?_
  cases a1
  refine ⟨z, rfl, k _ H1 Hr1 x1 fun G Gr s1 s2 s3 => ⟨fun i hi => ⟨hi, ?_⟩, Nat.le_refl _⟩⟩
  rintro x G' ⟨rfl, c, hc, rfl⟩
  refine ⟨Gr, Ext.refl s2, ?_⟩
  have e : z.cps.getD i 0 = c := by
    rw [Array.getD_eq_getD_getElem?, hc]; rfl
  show Dp K _ (.str ⟨#[c]⟩) (.str ⟨#[z.cps.getD i 0]⟩)
  rw [e]
  exact .str _
theorem dw_rng1 {j : Int} (h : DE H0 ρ te fa (aD K (.int j))) (hb1 : -(2 ^ 62) ≤ j) (hb2 : j < 2 ^ 62) : DW H0 ρ (iRng1 (tCons te tNil)) j.toNat f (fun i => aD K (.int i)) := fun σ H Hr R E k => by
  refine h σ H Hr _ E fun v H1 Hr1 x1 a1 => ?_
  cases a1
  refine ⟨j, rfl, hb1, hb2, k _ H1 Hr1 x1 fun G Gr s1 s2 s3 => ⟨fun i hi => ⟨hi, ?_⟩, Nat.le_refl _⟩⟩
  rintro x G' ⟨rfl, rfl⟩
  refine ⟨Gr, Ext.refl s2, ?_⟩
  rw [Int.zero_add]
  exact .int _
theorem dw_rng2 {l j : Int} (h : DE H0 ρ ta fa (aD K (.int l))) (h' : DE H0 ρ tb fb (aD K (.int j))) (hb : -(2 ^ 62) ≤ l ∧ l < 2 ^ 62 ∧ -(2 ^ 62) ≤ j ∧ j < 2 ^ 62) : DW H0 ρ (iRng2 (tCons ta (tCons tb tNil))) (j - l).toNat f (fun i => aD K (.int (l + i))) := fun σ H Hr R E k => by
  refine h σ H Hr _ E fun v H1 Hr1 x1 a1 => h' σ H1 Hr1 _ (E.ext x1) fun v2 H2 Hr2 x2 a2 => ?_
  cases a1; cases a2
  refine ⟨l, j, rfl, hb, k _ H2 Hr2 (x1.trans x2) fun G Gr s1 s2 s3 => ⟨fun i hi => ⟨hi, ?_⟩, Nat.le_refl _⟩⟩
  rintro x G' ⟨rfl, rfl⟩
  exact ⟨Gr, Ext.refl s2, .int _⟩
theorem dw_zip {ds es : List PyData} (h : DE H0 ρ ta f (aD K (.list ds))) (h' : DE H0 ρ tb f (aD K (.list es))) : DW H0 ρ (iZip K (tCons ta (tCons tb tNil))) (min ds.length es.length) f (fun i => aD K (.tuple [ds.getD i .none, es.getD i .none])) := fun σ H Hr R E k => by
  refine h σ H Hr _ E fun v H1 Hr1 x1 a1 => h' σ H1 Hr1 _ (E.ext x1) fun v2 H2 Hr2 x2 a2 => ?_
  cases a1 with
  | @lst a xs _ hq hA =>
    cases a2 with
    | @lst b ys _ hq2 hB =>
      have hA2 := dpa_mono (hp_mono f H0 x2.r) _ _ hA
      refine ⟨a, b, xs, ys, rfl, ((hp_sub f).trans (x2.r.trans x2.s)).seq hq, ((hp_sub f).trans x2.s).seq hq2, k _ H2 Hr2 (x1.trans x2) fun G Gr s1 s2 s3 => ?_⟩
      have q1 : SqL K G a xs := ((hp_sub f).trans (x2.r.trans (s1.trans s2))).seq hq
      have q2 : SqL K G b ys := ((hp_sub f).trans (s1.trans s2)).seq hq2
      have l1 := dpa_len hA
      have l2 := dpa_len hB
      refine ⟨fun i hi => ⟨⟨xs, ys, xs[i]'(by omega), ys[i]'(by omega), q1, q2, List.getElem?_eq_getElem _, List.getElem?_eq_getElem _⟩, ?_⟩, ⟨xs, ys, q1, q2, by omega⟩⟩
      rintro v G' ⟨T, x, y, rfl, hT, rfl, hx, hy⟩
      obtain ⟨d, e1, e2⟩ := dpa_get hA2 (hx xs q1)
      obtain ⟨e, e3, e4⟩ := dpa_get hB (hy ys q2)
      have xt : Ext G Gr (upd G T (.tup [x, y])) (upd Gr T (.tup [x, y])) := Ext.lay s2 hT
      refine ⟨_, xt, ?_⟩
      show Dp K _ (.ref T) (.tuple [ds.getD i .none, es.getD i .none])
      rw [List.getD_eq_getElem?_getD, List.getD_eq_getElem?_getD, e1, e3]
      refine .tup (SqT.of (hp_lay f s3 hT)) (.cons (dp_mono (hp_mono f H0 (s1.trans xt.r)) _ _ e2) (.cons (dp_mono (hp_mono f H0 (s1.trans xt.r)) _ _ e4) .nil))
theorem dw_enum {ds : List PyData} (h : DE H0 ρ ta f (aD K (.list ds))) : DW H0 ρ (iEnum K (tCons ta tNil)) ds.length f (fun i => aD K (.tuple [.int i, ds.getD i .none])) := fun σ H Hr R E k => by
  refine h σ H Hr _ E fun v H1 Hr1 x1 a1 => ?_
  cases a1 with
  | @lst a xs _ hq hA =>
    refine ⟨a, xs, rfl, ((hp_sub f).trans x1.s).seq hq, k _ H1 Hr1 x1 fun G Gr s1 s2 s3 => ?_⟩
    have q1 : SqL K G a xs := ((hp_sub f).trans (s1.trans s2)).seq hq
    have l1 := dpa_len hA
    refine ⟨fun i hi => ⟨⟨xs, xs[i]'(by omega), q1, List.getElem?_eq_getElem _⟩, ?_⟩, ⟨xs, q1, by omega⟩⟩
    rintro v G' ⟨T, x, rfl, hT, rfl, hx⟩
    obtain ⟨d, e1, e2⟩ := dpa_get hA (hx xs q1)
    have xt : Ext G Gr (upd G T (.tup [.int (i : Nat), x])) (upd Gr T (.tup [.int (i : Nat), x])) := Ext.lay s2 hT
    refine ⟨_, xt, ?_⟩
    show Dp K _ (.ref T) (.tuple [.int i, ds.getD i .none])
    rw [List.getD_eq_getElem?_getD, e1]
    exact .tup (SqT.of (hp_lay f s3 hT)) (.cons (.int _) (.cons (dp_mono (hp_mono f H0 (s1.trans xt.r)) _ _ e2) .nil))
theorem dg_name {i : Nat} {A : Abs} {vs : List Nat} (hi : Nat.blt i ρ.length = true := by rfl) (hv : vs.contains i = true := by rfl) : DG H0 ρ (gName i) f A (ρ.set i (sl f A)) vs := fun σ H Hr v Q E h k =>
  k _ (E.set (lt_of hi) h) (wipe_set (by simpa using hv))
theorem dg_pair {i j : Nat} {d e : PyData} {vs : List Nat} (hi : Nat.blt i ρ.length = true := by rfl) (hj : Nat.blt j ρ.length = true := by rfl) (hv : vs.contains i = true := by rfl) (hw : vs.contains j = true := by rfl) :
    DG H0 ρ (gTup K 2 (gCons (gName i) (gCons (gName j) gNil))) f (aD K (.tuple [d, e])) ((ρ.set i (sl f (aD K d))).set j (sl f (aD K e))) vs := fun σ H Hr v Q E h k => by
  cases h with
  | @tup a xs _ hs hA =>
    cases hA with
    | cons h1 hA =>
      cases hA with
      | cons h2 hA =>
        cases hA
        refine ⟨a, _, rfl, seqT ((hp_sub f).trans E.sub) hs, rfl, _, _, rfl, _, _, rfl, rfl, k _ ((E.set (lt_of hi) h1).set (by rw [List.length_set]; exact lt_of hj) h2) ?_⟩
        rw [wipe_set (by simpa using hw), wipe_set (by simpa using hv)]
def noOwn (ρ : List Slot) : Bool := ρ.all fun s => match s with | .own _ => false | _ => true
def wipeS (ρ : List Slot) : List Nat → List Slot
  | [] => ρ
  | v :: vs => (wipeS ρ vs).set v .no
def noReg (ρ : List Slot) : Bool := ρ.all fun s => match s with | .reg _ => false | _ => true
theorem noReg_at {ρ : List Slot} (h : noReg ρ = true) : ∀ (i : Nat) (A : Abs), ρ[i]? ≠ some (.reg A) := fun i A e => by
  unfold noReg at h
  rw [List.all_eq_true] at h
  exact Bool.noConfusion (h _ (List.mem_of_getElem? e))
theorem EnvOk.unset {σ : St} {H Hr : Hp} (E : EnvOk H0 σ ρ H Hr) (i : Nat) : EnvOk H0 (σ.set i none) (ρ.set i .no) H Hr := by
  have old : ∀ (j : Nat) (s : Slot), (ρ.set i .no)[j]? = some s → s = .no ∨ (ρ[j]? = some s ∧ j ≠ i) := fun j s h => by
    by_cases e : i = j
    · subst e
      by_cases hl : i < ρ.length
      · rw [List.getElem?_set_self hl] at h; exact .inl (Option.some.inj h).symm
      · rw [List.getElem?_eq_none (by rw [List.length_set]; omega)] at h; cases h
    · rw [List.getElem?_set_ne e] at h; exact .inr ⟨h, Ne.symm e⟩
  refine ⟨E.base, E.sub, by simp [E.len], fun j s hs => ?_, fun j k p B B' hjk hj hk ej ek => ?_, E.reg.set1 (fun j n => List.getElem?_set_ne (Ne.symm n)) (fun A z => by cases z) (fun B z => by cases z) fun a o h1 h2 h3 _ => ⟨h1, h2, h3⟩⟩
  · rcases old j s hs with rfl | ⟨h, hne⟩
    · trivial
    · have q := E.slot j s h
      have e : (σ.set i none)[j]? = σ[j]? := List.getElem?_set_ne (Ne.symm hne)
      cases s with
      | no => trivial
      | reg A => trivial
      | dat A => unfold SlotOk at q ⊢; rw [e]; exact q
      | new A => unfold SlotOk at q ⊢; rw [e]; exact q
      | own B => unfold SlotOk at q ⊢; rw [e]; exact q
  · rcases old j _ hj with h | ⟨h1, n1⟩
    · cases h
    · rcases old k _ hk with h | ⟨h2, n2⟩
      · cases h
      · rw [List.getElem?_set_ne (Ne.symm n1)] at ej
        rw [List.getElem?_set_ne (Ne.symm n2)] at ek
        exact E.dis j k p B B' hjk h1 h2 ej ek
theorem EnvOk.wipe {σ : St} {H Hr : Hp} (E : EnvOk H0 σ ρ H Hr) : ∀ vs : List Nat, EnvOk H0 (L2.wipe σ vs) (wipeS ρ vs) H Hr
  | [] => E
  | v :: vs => (E.wipe vs).unset v
theorem noReg_set {i : Nat} {s : Slot} (h : noReg ρ = true) (hs : noReg [s] = true) : noReg (ρ.set i s) = true := by
  unfold noReg at *
  rw [List.all_eq_true] at *
  intro x hx
  rcases List.mem_or_eq_of_mem_set hx with h1 | h1
  · exact h x h1
  · subst h1; exact hs x (by simp)
theorem noReg_wipe (h : noReg ρ = true) : ∀ vs : List Nat, noReg (wipeS ρ vs) = true
  | [] => h
  | v :: vs => noReg_set (noReg_wipe h vs) rfl
/-- outside of all slots, the heap may change -/
theorem EnvOk.out {σ : St} {H Hr : Hp} (E : EnvOk H0 σ ρ H Hr) (hn : noOwn ρ = true) (nr : noReg ρ = true) {D : Addr} {o : HO} (h0 : H0 D = none) (hr : Hr D = none) : EnvOk H0 σ ρ (upd H D o) Hr := by
  have no : ∀ (i : Nat) (B : AbsO), ρ[i]? ≠ some (.own B) := fun i B h => by
    unfold noOwn at hn
    rw [List.all_eq_true] at hn
    exact Bool.noConfusion (hn _ (List.mem_of_getElem? h))
  refine ⟨fun a u e => ?_, fun a u e => ?_, E.len, fun i s hs => ?_, fun j k p B B' _ hj _ _ _ => absurd hj (no j B), .nil (noReg_at nr)⟩
  · rw [upd_ne (ne_of_none e h0)]; exact E.base _ _ e
  · rw [upd_ne (ne_of_none e hr)]; exact E.sub _ _ e
  · have q := E.slot i s hs
    cases s with
    | no => trivial
    | dat A => exact q
    | new A => exact q
    | reg A => trivial
    | own B => exact absurd hs (no i B)
/-- what a comprehension makes: of each turn, given or left out -/
def made (e : Nat → Option PyData) : Nat → List PyData
  | 0 => []
  | n + 1 => made e n ++ (e n).toList
theorem made_len (e : Nat → Option PyData) : ∀ n, (made e n).length ≤ n
  | 0 => Nat.le_refl _
  | n + 1 => by
    unfold made
    rw [List.length_append]
    have := made_len e n
    have : (e n).toList.length ≤ 1 := by cases e n <;> simp
    omega
theorem dt_yes : DT K H0 ρ tYes true := fun σ H Hr Q E k => k H Hr (Ext.refl E.sub)
theorem made_all (g : Nat → PyData) : ∀ n, made (fun k => some (g k)) n = (List.range n).map g
  | 0 => rfl
  | n + 1 => by
    unfold made
    rw [made_all g n, List.range_succ, List.map_append]
    rfl
end
end Kj

set_option Elab.async false
set_option linter.all false
set_option maxRecDepth 100000
set_option maxHeartbeats 4000000
/-! Kj8: objects that are made once; more of lists and texts. -/
namespace Kj
section
open PySem MeetsSeq PySem.AutoSeq1
theorem cat_meets {l b : Addr} {xs ys : Array Value} {n m : Nat} {u v : Array (Option Value)} (hz : xs.size + ys.size ≤ sizeLine) :
    Meets (Builtin.«list.__add__» ⟨[.ref l, .ref b], []⟩) fun _ R s => s.heap.get? l = some ⟨.type "list", none, .seq xs n, u⟩ ∧ s.heap.get? b = some ⟨.type "list", none, .seq ys m, v⟩ ∧
      R (.ok (.ret (.ref s.heap.objs.size))) { s with heap := s.heap.push { cls := .type "list", data := .seq (xs ++ ys) }, toks := s.toks } :=
  .of_wp fun P w A R s h => by
    obtain ⟨hp, g, d, tk, os⟩ := s
    obtain ⟨h1, h2, h⟩ := h
    have i1 := idx_int
    have i2 := sub_tuple_tuple
    have i3 := sub_list_list
    have i4 := sub_tuple_list
    have i5 := sub_list_tuple
    wp_walk using wpAny_loadPart' h1, wpAny_loadPart' h2
    exact ⟨_, rfl, h⟩
end
open PySem L2
/-- list + list, of any readable lists -/
def rCatS (K : PySem.W.Frag) : R2 := fun x y H Q => ∃ l b xs zs, x = .ref l ∧ y = .ref b ∧ SqL K H l xs ∧ SqL K H b zs ∧ xs.length + zs.length ≤ sizeLine ∧ ∀ p, H p = none → Q (.ref p) (upd H p (.lst (xs ++ zs)))
theorem op_catS {X : Cx} : OpR X (binaryOp .Add) (rCatS X.K) := by
  intro pins s σ H x y v u Q I rx ry h
  obtain ⟨l, b, xs, zs, rfl, rfl, hH, hB, hz, q⟩ := h
  cases rx
  cases ry
  obtain ⟨its, r, ⟨⟨oc, od, odt, osl⟩, n, e, ec, ed, ee⟩, _⟩ := I.list hH
  obtain ⟨its2, r2, ⟨⟨oc2, od2, odt2, osl2⟩, n2, e2, ec2, ed2, ee2⟩, _⟩ := I.list hB
  dsimp only at ec ed ee ec2 ed2 ee2
  subst ec ed ee ec2 ed2 ee2
  have l1 := r.length
  have l2 := r2.length
  have ea : its.toArray ++ its2.toArray = (its ++ its2).toArray := by simp
  refine concat_meets ⟨_, e, rfl⟩ ⟨_, e2, rfl⟩ noFill_list_add seq_list_add F.slot_list_add F.entry_list_add (F.args_list_add_2 _ _) (cat_meets (by rw [List.size_toArray, List.size_toArray]; omega)) ⟨e, e2, ?_⟩
  rw [ea]
  exact ⟨.ref _, _, I.lnew (t' := s.toks) (r.append r2) (by rw [List.length_append]; omega), rfl, q _ I.fresh⟩
section
variable {H0 : Hp} {ρ : List Slot} {K : PySem.W.Frag} {f fa fb fc : Bool} {ta tb tc te : TE} {a b c : Bool} {N N1 : List Slot → Prop} {R : Abs} {t u w : TS}
theorem de_cat {ds es : List PyData} (ha : DE H0 ρ ta f (aD K (.list ds))) (hb : DE H0 ρ tb f (aD K (.list es))) (hl : ds.length + es.length ≤ 100000) : DE H0 ρ (tOp (rCatS K) ta tb) f (aD K (.list (ds ++ es))) := fun σ H Hr Q E k => by
  refine ha σ H Hr _ E fun x H1 Hr1 x1 a1 => hb σ H1 Hr1 _ (E.ext x1) fun y H2 Hr2 x2 a2 => ?_
  cases a1 with
  | @lst p xs _ hs hA =>
    cases a2 with
    | @lst q ys _ hs2 hB =>
      have l1 := dpa_len hA
      have l2 := dpa_len hB
      refine ⟨p, q, xs, ys, rfl, rfl, ((hp_sub f).trans (x2.r.trans x2.s)).seq hs, ((hp_sub f).trans x2.s).seq hs2, Nat.le_trans (show _ ≤ 100000 by omega) (by rw [sizeLine_eq]; decide), fun r hn => ?_⟩
      have xt : Ext H2 Hr2 (upd H2 r (.lst (xs ++ ys))) (upd Hr2 r (.lst (xs ++ ys))) := Ext.lay x2.s hn
      exact k _ _ _ ((x1.trans x2).trans xt) (.lst (SqL.of (hp_lay f ((E.ext x1).ext x2).base hn)) (dpa_app (dpa_mono (hp_mono f H0 (x2.r.trans xt.r)) _ _ hA) (dpa_mono (hp_mono f H0 xt.r) _ _ hB)))
/-- list(x), its items without an address -/
theorem de_listOfS {ds : List PyData} (h : DE H0 ρ te fa (aD K (.list ds))) (hf : ds.all scD = true) : DE H0 ρ (tCB (fun xs H Q => ∃ p ys, xs = [.ref p] ∧ (SqL K H p ys ∨ SqT K H p ys) ∧ ∀ l, H l = none → Q (.ref l) (upd H l (.lst ys))) (tCons te tNil)) f (aD K (.list ds)) := fun σ H Hr Q E k => h σ H Hr _ E fun v H1 Hr1 x1 a1 => by
  cases a1 with
  | @lst p xs _ hs hA =>
    refine ⟨p, xs, rfl, .inl (((hp_sub fa).trans x1.s).seq hs), fun r hn => ?_⟩
    have xt : Ext H1 Hr1 (upd H1 r (.lst xs)) (upd Hr1 r (.lst xs)) := Ext.lay x1.s hn
    exact k _ _ _ (x1.trans xt) (.lst (SqL.of (hp_lay f (E.ext x1).base hn)) (dpa_sc hf hA))
theorem dpa_bools {H : Hp} : ∀ {bs : List Bool} {xs : List V}, DpAll K H xs (bs.map PyData.bool) → xs = bs.map V.bl
  | [], _, .nil => rfl
  | b :: bs, _, .cons h t => by cases h; rw [dpa_bools t]; rfl
theorem dpa_strs {H : Hp} : ∀ {bs : List Str} {xs : List V}, DpAll K H xs (bs.map PyData.str) → xs = bs.map V.str
  | [], _, .nil => rfl
  | b :: bs, _, .cons h t => by cases h; rw [dpa_strs t]; rfl
theorem de_all {bs : List Bool} (h : DE H0 ρ te fa (aD K (.list (bs.map .bool)))) : DE H0 ρ (tCB (rAll K) (tCons te tNil)) f (aD K (.bool (bs.all id))) := fun σ H Hr Q E k => h σ H Hr _ E fun v H1 Hr1 x1 a1 => by
  cases a1 with
  | @lst p xs _ hs hA =>
    rw [dpa_bools hA] at hs
    exact ⟨p, bs, rfl, ((hp_sub fa).trans x1.s).seq hs, k _ H1 Hr1 x1 (.bl _)⟩
theorem de_join {z : Str} {ys : List Str} (ha : DE H0 ρ ta fa (aD K (.str z))) (hb : DE H0 ρ tb fb (aD K (.list (ys.map .str)))) (hl : (ys.map (·.length)).sum + ys.length * z.length ≤ 16777216) :
    DE H0 ρ (tM1 (fun x xs H Q => ∃ a p, ∃ ys : List Str, x = .str a ∧ xs = [.ref p] ∧ (SqL K H p (ys.map V.str) ∨ SqT K H p (ys.map V.str)) ∧ (ys.map (·.length)).sum + ys.length * a.length ≤ 16777216 ∧ Q (.str (Txt.join a ys)) H) ta tb) f (aD K (.str (Txt.join z ys))) := fun σ H Hr Q E k =>
  ha σ H Hr _ E fun x H1 Hr1 x1 a1 => by
    cases a1
    refine ⟨⟨z, rfl⟩, hb σ H1 Hr1 _ (E.ext x1) fun y H2 Hr2 x2 a2 => ?_⟩
    cases a2 with
    | @lst p xs _ hs hA =>
      rw [dpa_strs hA] at hs
      exact ⟨z, p, ys, rfl, rfl, .inl (((hp_sub fb).trans x2.s).seq hs), hl, k _ H2 Hr2 (x1.trans x2) (.str _)⟩
/-- a <= b <= c, of texts -/
theorem de_chS {i j m : Str} (ha : DE H0 ρ ta fa (aD K (.str i))) (hb : DE H0 ρ tb fb (aD K (.str j))) (hc : DE H0 ρ tc fc (aD K (.str m))) :
    DE H0 ρ (tChain (fun x y H Q => ∃ i j, x = .str i ∧ y = .str j ∧ Q (.bl (!decide (j.cps.toList < i.cps.toList))) H) (fun x y H Q => ∃ i j, x = .str i ∧ y = .str j ∧ Q (.bl (!decide (j.cps.toList < i.cps.toList))) H) ta tb tc) f
      (aD K (.bool (!decide (j.cps.toList < i.cps.toList) && !decide (m.cps.toList < j.cps.toList)))) := fun σ H Hr Q E k => by
  refine ha σ H Hr _ E fun x H1 Hr1 x1 q1 => hb σ H1 Hr1 _ (E.ext x1) fun y H2 Hr2 x2 q2 => ?_
  cases q1; cases q2
  refine ⟨i, j, rfl, rfl, _, rfl, ?_⟩
  cases hg : (!decide (j.cps.toList < i.cps.toList)) with
  | true =>
    rw [if_pos rfl]
    refine hc σ H2 Hr2 _ ((E.ext x1).ext x2) fun z H3 Hr3 x3 q3 => ?_
    cases q3
    exact ⟨j, m, rfl, rfl, k _ H3 Hr3 ((x1.trans x2).trans x3) (by rw [hg, Bool.true_and]; exact .bl _)⟩
  | false => rw [if_neg Bool.false_ne_true]; exact k _ H2 Hr2 (x1.trans x2) (by rw [hg, Bool.false_and]; exact .bl _)
end
/-! ### objects -/
inductive FAll : List (Str × Abs) → List (Str × V) → Hp → Prop
  | nil {H : Hp} : FAll [] [] H
  | cons {n : Str} {A : Abs} {v : V} {fas : List (Str × Abs)} {fs : List (Str × V)} {H : Hp} : A.p v H → FAll fas fs H → FAll ((n, A) :: fas) ((n, v) :: fs) H
theorem FAll.mono {H H' : Hp} (s : Same H H') : ∀ {fas : List (Str × Abs)} {fs : List (Str × V)}, FAll fas fs H → FAll fas fs H'
  | _, _, .nil => .nil
  | _, _, .cons (A := A) h t => .cons (A.mono _ _ _ s h) (FAll.mono s t)
theorem FAll.look {H : Hp} {x : Str} {A : Abs} : ∀ {fas : List (Str × Abs)} {fs : List (Str × V)}, FAll fas fs H → fas.lookup x = some A → ∃ v, fs.lookup x = some v ∧ A.p v H
  | _, _, .nil, e => by cases e
  | _, _, .cons (n := n) (v := v) (fas := fas) (fs := fs) h t, e => by
    rw [List.lookup_cons] at e ⊢
    cases q : x == n with
    | true => rw [q] at e; cases e; exact ⟨v, rfl, h⟩
    | false => rw [q] at e; exact FAll.look t e
theorem FAll.none {H : Hp} {x : Str} : ∀ {fas : List (Str × Abs)} {fs : List (Str × V)}, FAll fas fs H → fas.lookup x = none → fs.lookup x = none
  | _, _, .nil, _ => rfl
  | _, _, .cons (n := n) (fas := fas) (fs := fs) h t, e => by
    rw [List.lookup_cons] at e ⊢
    cases q : x == n with
    | true => rw [q] at e; cases e
    | false => rw [q] at e; exact FAll.none t e
def aIns (C : Addr) (fas : List (Str × Abs)) : Abs := ⟨fun v H => ∃ a dx fs, v = .ref a ∧ H a = some (.ins C dx fs) ∧ FAll fas fs H, fun v _ _ s ⟨a, dx, fs, e, h, q⟩ => ⟨a, dx, fs, e, s _ _ h, q.mono s⟩⟩
def oIns (x C dx : Addr) (fas : List (Str × Abs)) : AbsO := ⟨fun a o H => a = x ∧ ∃ fs, o = .ins C dx fs ∧ FAll fas fs H, fun _ _ _ _ s ⟨z, fs, e, q⟩ => ⟨z, fs, e, q.mono s⟩⟩
def rm (H : Hp) (x : Addr) : Hp := fun a => if a = x then none else H a
theorem rm_self {H : Hp} {x : Addr} : rm H x x = none := by unfold rm; rw [if_pos rfl]
theorem rm_some {H : Hp} {x a : Addr} {o : HO} (h : rm H x a = some o) : H a = some o ∧ a ≠ x := by
  unfold rm at h
  by_cases e : a = x
  · rw [if_pos e] at h; cases h
  · rw [if_neg e] at h; exact ⟨h, e⟩
theorem rm_ne {H : Hp} {x a : Addr} (h : a ≠ x) : rm H x a = H a := by unfold rm; rw [if_neg h]
/-- what __init__ promises: the fields -/
def spI (S : List Abs → List (Str × Abs) → Prop) (C : Addr) : Sp := fun vs H Q _ => ∃ x dx As fas rest, vs = .ref x :: rest ∧ H x = some (.ins C dx []) ∧ S As fas ∧ AllP As rest (rm H x) ∧
  ∀ H' fs, Same (rm H x) H' → H' x = some (.ins C dx fs) → FAll fas fs (mns H' H) → Q .non H'
section
variable {H0 : Hp} {ρ : List Slot} {K : PySem.W.Frag} {f fa fb fc : Bool} {ta tb tc te : TE} {N N1 : List Slot → Prop} {R : Abs} {t u w : TS} {C : Addr} {fas : List (Str × Abs)}
theorem de_fld {x : Str} {A : Abs} (h : DE H0 ρ ta f (aIns C fas)) (hc : Cls K C) (hn : NoAttr K C x) (hl : fas.lookup x = some A) : DE H0 ρ (tFld K ta x) f A := fun σ H Hr Q E k => h σ H Hr _ E fun v H1 Hr1 x1 a1 => by
  obtain ⟨a, dx, fs, rfl, e, q⟩ := a1
  obtain ⟨v, l, p⟩ := q.look hl
  exact ⟨a, C, dx, fs, v, rfl, ((hp_sub f).trans x1.s) _ _ e, hc, hn, l, k v H1 Hr1 x1 p⟩
theorem de_meth {S : Spec} {As : List Abs} {R : Abs} {t : TA} {Ex : XK} {m : Str} (h : DE H0 ρ ta fa (aIns C fas)) (hl : fas.lookup m = none) (ha : DA H0 ρ t false As) (hs : S (aIns C fas :: As) R) : DE H0 ρ (tMeth C m (spF S) [] Ex ta t) f R := fun σ H Hr Q E k => h σ H Hr _ E fun v H1 Hr1 x1 a1 => by
  have a1' := a1
  obtain ⟨a, dx, fs, rfl, e, q⟩ := a1
  refine ⟨a, dx, fs, rfl, ((hp_sub fa).trans x1.s) _ _ e, q.none hl, ha σ H1 Hr1 _ (E.ext x1) fun vs H2 Hr2 x2 a2 => ?_⟩
  rw [List.append_nil]
  refine ⟨_, R, hs, .cons ((aIns C fas).mono _ _ _ ((hp_sub fa).trans (x2.r.trans x2.s)) a1') (a2.mono x2.s), fun v H3 s3 r3 => k v H3 _ (Ext.call E.sub (x1.trans x2).h s3) ?_⟩
  have r4 := R.mono _ _ _ (joinH_new E.base E.sub (x1.trans x2).h) r3
  cases f
  · exact R.mono _ _ _ mns_sub r4
  · exact r4
theorem de_make {S : List Abs → List (Str × Abs) → Prop} {As : List Abs} {t : TA} {Ex : XK} {ρ' : List Slot} (bo : Bo H0 ρ ρ') (ha : DA H0 ρ' t false As) (hs : S As fas) : DE H0 ρ (tMake C (spI S C) [] Ex t) f (aIns C fas) := fun σ H Hr Q E k => by
  obtain ⟨Hr', s, E'⟩ := bo σ H Hr E
  refine ha σ H Hr' _ E' fun vs H1 Hr1 x1 a1 x dx hx hdx hne => ?_
  rw [List.append_nil]
  have lift : Same H1 (rm (upd (upd H1 dx (.own x)) x (.ins C dx [])) x) := fun a o q => by
    have n1 : a ≠ x := ne_of_none q hx
    have n2 : a ≠ dx := ne_of_none q hdx
    rw [rm_ne n1, upd_ne n1, upd_ne n2]; exact q
  refine ⟨x, dx, As, fas, vs, rfl, upd_same, hs, a1.mono (x1.s.trans lift), fun H' fs s' hx' hf => ⟨rfl, ?_⟩⟩
  have s2 : Same H1 H' := lift.trans s'
  refine k (.ref x) H' _ (Ext.call E.sub x1.h s2) ?_
  have nw : Same (mns H' (upd (upd H1 dx (.own x)) x (.ins C dx []))) (mns H' H1) := fun a o q => by
    obtain ⟨q1, q2⟩ := mns_some.mp q
    refine mns_some.mpr ⟨?_, q2⟩
    by_cases e1 : a = x
    · subst e1; rw [upd_same] at q1; cases q1
    · rw [upd_ne e1] at q1
      by_cases e2 : a = dx
      · subst e2; rw [upd_same] at q1; cases q1
      · rw [upd_ne e2] at q1; exact q1
  have new : (aIns C fas).p (.ref x) (mns (joinH Hr H1 H') H0) := ⟨x, dx, fs, rfl, joinH_new E.base E.sub x1.h _ _ (mns_some.mpr ⟨hx, hx'⟩), hf.mono (nw.trans (joinH_new E.base E.sub x1.h))⟩
  cases f
  · exact (aIns C fas).mono _ _ _ mns_sub new
  · exact new
end
theorem noOwn_start (As : List Abs) (n : Nat) : noOwn (As.map Slot.dat ++ List.replicate n Slot.no) = true := by
  unfold noOwn
  rw [List.all_eq_true]
  intro s hs
  rcases List.mem_append.mp hs with h | h
  · obtain ⟨A, _, rfl⟩ := List.mem_map.mp h; rfl
  · rw [(List.mem_replicate.mp h).2]
theorem noReg_start (As : List Abs) (n : Nat) : noReg (As.map Slot.dat ++ List.replicate n Slot.no) = true := by
  unfold noReg
  rw [List.all_eq_true]
  intro s hs
  rcases List.mem_append.mp hs with h | h
  · obtain ⟨A, _, rfl⟩ := List.mem_map.mp h; rfl
  · rw [(List.mem_replicate.mp h).2]
theorem EnvOk.consOwn {H0 H : Hp} {σ : St} {ρ : List Slot} {x : Addr} {o : HO} {B : AbsO} (E : EnvOk H0 σ ρ H0 H0) (hn : noOwn ρ = true) (nr : noReg ρ = true) (h0 : H0 x = none) (hx : H x = some o) (s : Same H0 H) (hB : ∀ G, B.p x o G) : EnvOk H0 (some (.ref x) :: σ) (.own B :: ρ) H H0 := by
  have no : ∀ (i : Nat) (B : AbsO), ρ[i]? ≠ some (.own B) := fun i B h => by
    unfold noOwn at hn
    rw [List.all_eq_true] at hn
    exact Bool.noConfusion (hn _ (List.mem_of_getElem? h))
  refine ⟨s, s, by simp [E.len], fun i u hu => ?_, fun i j p B1 B2 hij hi hj _ _ => ?_, .nil fun i A h => by
    cases i with
    | zero => cases h
    | succ i => exact noReg_at nr i A (by simpa using h)⟩
  · cases i with
    | zero =>
      have e := Option.some.inj hu
      subst e
      exact ⟨x, o, rfl, h0, h0, hx, hB _⟩
    | succ i =>
      have hu' : ρ[i]? = some u := by simpa using hu
      have q := E.slot i u hu'
      cases u with
      | no => trivial
      | dat A => exact q
      | new A => exact q
      | reg A => trivial
      | own B => exact absurd hu' (no i B)
  · cases i with
    | zero =>
      cases j with
      | zero => exact hij rfl
      | succ j => exact no j B2 (by simpa using hj)
    | succ i => exact no i B1 (by simpa using hi)
section
variable {P : Program} {w : World} {K : PySem.W.Frag} {mg : Str → Option Value} {base : Heap}
theorem initD_ok {x qual : Str} {st : Stmt} {f C : Addr} {fd : FuncData} {N ps : List Str} {p0 : Str} {k : Nat} {S : List Abs → List (Str × Abs) → Prop} (F : FnP K x qual st f fd) (Sc : FnScope N (p0 :: ps) (defScope st)) (len : ∀ As fas, S As fas → As.length = ps.length)
    (body : ∀ (cdv : Value) (A : Around) (outer : List Env) (s : Shared) (H : Hp) (E : XK), Room k (A.deeper (PyProof.Rows.envOfC qual (defScope st) s.heap.objs.size f cdv)) → ∀ As fas, S As fas →
      ∃ t, PSs (cxOf CX0 P w K mg base N qual (defScope st) f cdv A outer s H E).nox (defBody st) t ∧ ∀ H0 xo dx, DS C0 H0 (.own (oIns xo C dx []) :: (As.map Slot.dat ++ List.replicate (N.length - (As.length + 1)) Slot.no)) t (fun r => ∃ rest, r = .own (oIns xo C dx fas) :: rest) aNo) : FnOk P w K mg base CX0 (k + 1) f fd (p0 :: ps) (spI S C) := by
  refine F.ok Sc (fun vs H Q E h => ?_) (fun cdv A outer s H vs Q E hr h => ?_)
  · obtain ⟨x, dx, As, fas, rest, rfl, _, h1, h2, _⟩ := h
    simp [← h2.length, len As fas h1]
  · obtain ⟨x, dx, As, fas, rest, rfl, hx, h1, h2, h3⟩ := h
    obtain ⟨t, p, d⟩ := body cdv A outer s H E hr As fas h1
    have e := env_start (n := N.length - (As.length + 1)) h2
    have lift : Same (rm H x) H := fun a o q => (rm_some q).1
    have E1 := e.consOwn (B := oIns x C dx []) (noOwn_start _ _) (noReg_start _ _) rm_self hx lift (fun G => ⟨rfl, [], rfl, .nil⟩)
    refine ⟨t, p.nox, d (rm H x) x dx _ H (rm H x) _ ?_ (fun ρ' σ' H' Hr' n E' s => ?_) (fun v H' s _ r => r.elim) (KX.no fun _ _ _ _ z => z)⟩
    · unfold L2.start
      rw [List.map_cons, List.length_cons, ← h2.length]
      exact E1
    · obtain ⟨rest', rfl⟩ := n
      obtain ⟨p, o, e1, e2, e3, e4, rfl, fs, rfl, q⟩ := E'.slot 0 _ rfl
      refine h3 H' fs E'.base e4 (q.mono fun a o z => ?_)
      obtain ⟨z1, z2⟩ := mns_some.mp z
      refine mns_some.mpr ⟨?_, E'.sub _ _ z2⟩
      have ne : a ≠ p := fun z => by subst z; rw [e3] at z2; cases z2
      rw [rm_ne ne] at z1
      exact z1
end
end Kj

set_option Elab.async false
set_option linter.all false
set_option maxRecDepth 100000
set_option maxHeartbeats 4000000
/-! Kj9: methods and makers under their names; global numbers. -/
namespace Kj
open PySem L2
section
variable {P : Program} {w : World} {K : PySem.W.Frag} {mg : Str → Option Value} {base : Heap}
def MethAt (P : Program) (w : World) (K : PySem.W.Frag) (mg : Str → Option Value) (base : Heap) (C : Addr) (m : Str) (k : Nat) (ps : List Str) (sp : Sp) : Prop :=
  ∃ f fd, Cls K C ∧ Meth K C m f ∧ Binds K fd ps [] ∧ FnOk P w K mg base CX0 k f fd ps sp
def MkAt (P : Program) (w : World) (K : PySem.W.Frag) (mg : Str → Option Value) (base : Heap) (x : Str) (C : Addr) (k : Nat) (ps : List Str) (sp : Sp) : Prop :=
  ∃ f fd, Mk K C f ∧ mg x = some (.ref C) ∧ Binds K fd ps [] ∧ FnOk P w K mg base CX0 k f fd ps sp
theorem methAt {x qual m : Str} {C : Addr} {st : Stmt} {f : Addr} {fd : FuncData} {k : Nat} {ps : List Str} {sp : Sp} (F : FnP K x qual st f fd) (c : Cls K C) (hm : Meth K C m f) (G : FnOk P w K mg base CX0 k f fd ps sp)
    (h : ∀ (kV doc pm : Value) (an : Option Addr) (cdv ct : Value) (us : List Value), us.length = ps.length → bindArgs (PySem.W.fnOf x qual (defArgs st) (defBody st) (defScope st) .none kV doc pm an cdv ct) ⟨us, []⟩ = pure (ps.zip us)) : MethAt P w K mg base C m k ps sp :=
  ⟨f, fd, c, hm, F.bindsN h, G⟩
theorem mkAt {x qual n : Str} {C : Addr} {st : Stmt} {f : Addr} {fd : FuncData} {k : Nat} {ps : List Str} {sp : Sp} (F : FnP K x qual st f fd) (M : Mk K C f) (hg : mg n = some (.ref C)) (G : FnOk P w K mg base CX0 k f fd ps sp)
    (h : ∀ (kV doc pm : Value) (an : Option Addr) (cdv ct : Value) (us : List Value), us.length = ps.length → bindArgs (PySem.W.fnOf x qual (defArgs st) (defBody st) (defScope st) .none kV doc pm an cdv ct) ⟨us, []⟩ = pure (ps.zip us)) : MkAt P w K mg base n C k ps sp :=
  ⟨f, fd, M, hg, F.bindsN h, G⟩
end
theorem pe_methD {X : Cx} {C : Addr} {k : Nat} {ps : List Str} {sp : Sp} {m : Str} {pos apos : Pos} {o e : Expr} {es : List Expr} {ta : TE} {t : TA} {pl : Sem Bool} (he : PE X o ta) (D : MethAt X.prog X.w X.K X.mg X.base C m k ps sp) (hr : Room k X.A) (ha : PA X (e :: es) t)
    (hst : starEach (e :: es) X.env = (false, eval e X.env) :: starEach es X.env := by rfl) (hpl : (backTo pos (starEach es X.env)).any (·.1) = false := by rfl)
    (ht : eval (.Call (.Attribute o m apos) (e :: es) [] pos) X.env = (do
      let ov ← eval o X.env
      standAt apos.atName
      let (f, first) ← holding [ov] (getMethod ov m pl)
      callWith pos f first (backTo pos (starEach (e :: es) X.env)) (backToKw pos (keywordEach [] X.env))) := by rfl) :
    PE X (.Call (.Attribute o m apos) (e :: es) [] pos) (tMeth C m sp [] E0 ta t) := by
  obtain ⟨f, fd, h1, h2, h3, h4⟩ := D
  exact pe_meth (pl := pl) he h1 h2 h4 hr h3 .nil pass0 ha hst hpl ht
theorem pe_meth0D {X : Cx} {C : Addr} {k : Nat} {ps : List Str} {sp : Sp} {m : Str} {pos apos : Pos} {o : Expr} {ta : TE} {pl : Sem Bool} (he : PE X o ta) (D : MethAt X.prog X.w X.K X.mg X.base C m k ps sp) (hr : Room k X.A)
    (ht : eval (.Call (.Attribute o m apos) [] [] pos) X.env = (do
      let ov ← eval o X.env
      standAt apos.atName
      let (f, first) ← holding [ov] (getMethod ov m pl)
      callWith pos f first (backTo pos (starEach [] X.env)) (backToKw pos (keywordEach [] X.env))) := by rfl) :
    PE X (.Call (.Attribute o m apos) [] [] pos) (tMeth C m sp [] E0 ta tNil) := by
  obtain ⟨f, fd, h1, h2, h3, h4⟩ := D
  exact pe_meth0 (pl := pl) he h1 h2 h4 hr h3 .nil pass0 ht
theorem pe_mkD {X : Cx} {C : Addr} {k : Nat} {ps : List Str} {sp : Sp} {x : Str} {p pos : Pos} {e : Expr} {es : List Expr} {t : TA} (D : MkAt X.prog X.w X.K X.mg X.base x C k ps sp) (hr : Room (k + 1) X.A) (hg : Gl X x)
    (ha : PA X (e :: es) t) (hdb : (x == ("__debug__" : Str)) = false := by decide) (he : starEach (e :: es) X.env = (false, eval e X.env) :: starEach es X.env := by rfl) (hpl : (backTo pos (starEach es X.env)).any (·.1) = false := by rfl) :
    PE X (.Call (.Name x p) (e :: es) [] pos) (tMake C sp [] E0 t) := by
  obtain ⟨f, fd, h1, h2, h3, h4⟩ := D
  exact pe_make h1 h4 hr hg h2 h3 .nil pass0 ha hdb he hpl
theorem pe_globI {X : Cx} {x : Str} {i : Int} {pos : Pos} (hg : Gl X x) (hm : ∃ t, X.mg x = some (.int i t)) (hd : (x == ("__debug__" : Str)) = false := by decide) : PE X (.Name x pos) (tC (.int i)) := by
  obtain ⟨t, h⟩ := hm
  exact pe_glob hg h ⟨t, rfl⟩ hd
/-! ### data of texts -/
def dS (v : List Str) : PyData := .list (v.map .str)
def dB (b : List (List Str)) : PyData := .list (b.map dS)
end Kj

set_option Elab.async false
set_option linter.all false
set_option maxRecDepth 100000
set_option maxHeartbeats 4000000
/-! KjBk: the mathematics of books. -/
namespace Kj
open PySem L2 TL
def Syl (z : Str) : Prop := 1 ≤ z.cps.size ∧ z.cps.size ≤ 3 ∧ ∀ c ∈ z.cps.toList, 97 ≤ c ∧ c ≤ 122
def Ver (v : List Str) : Prop := 1 ≤ v.length ∧ v.length ≤ 8 ∧ ∀ z ∈ v, Syl z
def alk (a b : List Str) : Bool := decide (a.take (min a.length b.length) = b.take (min a.length b.length))
def BookOk (m : Nat) (b : List (List Str)) : Prop := 1 ≤ b.length ∧ b.length ≤ m ∧ (∀ v ∈ b, Ver v) ∧ b.Pairwise (fun x y => alk x y = false)
theorem joinL_one : ∀ cs : List Nat, joinL [] (cs.map fun c => [c]) = cs
  | [] => rfl
  | [c] => rfl
  | c :: d :: r => by
    show [c] ++ ([] ++ joinL [] ((d :: r).map fun c => [c])) = _
    rw [joinL_one (d :: r)]
    rfl
theorem join_one (cs : List Nat) : (Txt.join (Str.ofString "") (cs.map fun c => (⟨#[c]⟩ : Str))).cps.toList = cs := by
  rw [join_eq]
  have h := tl_join (Str.ofString "") (cs.map fun c => (⟨#[c]⟩ : Str))
  have e : tl (Str.ofString "") = [] := by decide
  rw [e, List.map_map] at h
  have e2 : (tl ∘ fun c => (⟨#[c]⟩ : Str)) = fun c => [c] := rfl
  rw [e2, joinL_one] at h
  exact h
theorem syl_join {cs : List Nat} (h1 : 1 ≤ cs.length) (h2 : cs.length ≤ 3) (h3 : ∀ c ∈ cs, 97 ≤ c ∧ c ≤ 122) : Syl (Txt.join (Str.ofString "") (cs.map fun c => (⟨#[c]⟩ : Str))) := by
  have e := join_one cs
  refine ⟨?_, ?_, ?_⟩
  · rw [← Array.length_toList, e]; exact h1
  · rw [← Array.length_toList, e]; exact h2
  · rw [e]; exact h3
def sylB (z : Str) : Bool := decide (1 ≤ z.cps.size) && (decide (z.cps.size ≤ 3) && z.cps.toList.all fun c => decide (97 ≤ c) && decide (c ≤ 122))
theorem sylB_ok {z : Str} (h : sylB z = true) : Syl z := by
  unfold sylB at h
  rw [Bool.and_eq_true, Bool.and_eq_true, List.all_eq_true] at h
  refine ⟨of_decide_eq_true h.1, of_decide_eq_true h.2.1, fun c hc => ?_⟩
  have := h.2.2 c hc
  rw [Bool.and_eq_true] at this
  exact ⟨of_decide_eq_true this.1, of_decide_eq_true this.2⟩
theorem syls_ok {l : List Str} (h : l.all sylB = true) : ∀ z ∈ l, Syl z := fun z hz => sylB_ok (List.all_eq_true.mp h z hz)
theorem alk_comm (a b : List Str) : alk a b = alk b a := by
  unfold alk
  rw [Nat.min_comm]
  by_cases h : a.take (min b.length a.length) = b.take (min b.length a.length)
  · rw [decide_eq_true h, decide_eq_true h.symm]
  · rw [decide_eq_false h, decide_eq_false (fun z => h z.symm)]
/-- one begins the other: then they are alike -/
theorem alk_of_beg {a b : List Str} (h : b.take a.length = a) : alk a b = true := by
  unfold alk
  have hl : a.length ≤ b.length := by
    have := congrArg List.length h
    rw [List.length_take] at this
    omega
  rw [Nat.min_eq_left hl, h, List.take_of_length_le (Nat.le_refl _)]
  exact decide_eq_true rfl
theorem book_nobeg {m : Nat} {b : List (List Str)} (h : BookOk m b) {i j : Nat} {x y : List Str} (hx : b[i]? = some x) (hy : b[j]? = some y) (hij : i ≠ j) : y.take x.length ≠ x := by
  intro e
  have a1 := alk_of_beg e
  obtain ⟨li, rfl⟩ := List.getElem?_eq_some_iff.mp hx
  obtain ⟨lj, rfl⟩ := List.getElem?_eq_some_iff.mp hy
  have pw := List.pairwise_iff_getElem.mp h.2.2.2
  rcases Nat.lt_or_gt_of_ne hij with h1 | h1
  · have := pw i j li lj h1
    rw [a1] at this; cases this
  · have := pw j i lj li h1
    rw [alk_comm, a1] at this; cases this
end Kj

set_option Elab.async false
set_option linter.all false
set_option maxRecDepth 100000
set_option maxHeartbeats 4000000
/-! KjBk2: indices and slices of numbers, texts, verses. -/
namespace Kj
open PySem L2
def NN (m : Nat) (ms : List Int) : Prop := m ≤ ms.length ∧ ∀ x ∈ ms, 0 ≤ x
theorem NN.mono {m n : Nat} {ms : List Int} (h : NN m ms) (hn : n ≤ m) : NN n ms := ⟨Nat.le_trans hn h.1, h.2⟩
theorem NN.get {m : Nat} {ms : List Int} (h : NN m ms) (i : Nat) : 0 ≤ ms.getD i 0 := by
  rw [List.getD_eq_getElem?_getD]
  cases e : ms[i]? with
  | none => exact Int.le_refl _
  | some x => exact h.2 x (List.mem_of_getElem? e)
theorem NN.drop {m n : Nat} {ms : List Int} (h : NN m ms) (hn : n ≤ m) : NN (m - n) (ms.drop n) := ⟨by rw [List.length_drop]; have := h.1; omega, fun x hx => h.2 x (List.mem_of_mem_drop hx)⟩
theorem NN.take {m n : Nat} {ms : List Int} (h : NN m ms) (hn : n ≤ m) : NN n (ms.take n) := ⟨by rw [List.length_take]; have := h.1; omega, fun x hx => h.2 x (List.mem_of_mem_take hx)⟩
theorem cutD_mid {α : Type} (xs : List α) {a b : Int} (h : 0 ≤ a) (hb : a ≤ b) : cutD xs (some a) (some b) = (xs.drop a.toNat).take (b.toNat - a.toNat) := by
  unfold cutD
  rw [sIx_nn _ _ h, sIx_nn _ _ (by omega)]
  by_cases h2 : a.toNat ≤ xs.length
  · rw [Nat.min_eq_left h2]
    by_cases h3 : b.toNat ≤ xs.length
    · rw [Nat.min_eq_left h3]
    · rw [Nat.min_eq_right (by omega), List.take_of_length_le (by simp), List.take_of_length_le (by simp; omega)]
  · have e1 : xs.drop a.toNat = [] := List.drop_eq_nil_of_le (by omega)
    have e2 : xs.drop (min a.toNat xs.length) = [] := List.drop_eq_nil_of_le (by omega)
    rw [e1, e2]; simp
theorem getD_mem {α : Type} {xs : List α} {i : Nat} {z : α} (h : i < xs.length) : xs.getD i z ∈ xs := by
  rw [List.getD_eq_getElem?_getD, List.getElem?_eq_getElem h]
  exact List.getElem_mem h
theorem Ver.take {v : List Str} (h : Ver v) {n : Nat} (hn : 1 ≤ n) : Ver (v.take n) := ⟨by rw [List.length_take]; have := h.1; omega, by rw [List.length_take]; have := h.2.1; omega, fun z hz => h.2.2 z (List.mem_of_mem_take hz)⟩
section
variable {H0 : Hp} {ρ : List Slot} {K : PySem.W.Frag} {f fa fb fc : Bool} {ta tb tc te : TE}
end
end Kj

set_option Elab.async false
set_option linter.all false
set_option maxRecDepth 100000
set_option maxHeartbeats 4000000
/-! Kj10: typed values, and readings by Lean programs in Option. -/
namespace Kj
open PySem L2
/-! ### typed values -/
class Enc (α : Type) where
  enc : α → PyData
  plain : ∀ x, (enc x).plain = true
  dep : Nat
  depth : ∀ x, (enc x).depth ≤ dep
  eqv : ∀ x y, PyData.eqv (enc x) (enc y) = true ↔ x = y
abbrev en {α : Type} [Enc α] (x : α) : PyData := Enc.enc x
theorem dep_en {α : Type} [Enc α] (x : α) : (en x).depth ≤ Enc.dep α := Enc.depth x
instance : Enc Int := ⟨.int, fun _ => by simp [PyData.plain], 0, fun _ => by simp [PyData.depth], fun x y => by simp [PyData.eqv]⟩
instance : Enc Bool := ⟨.bool, fun _ => by simp [PyData.plain], 0, fun _ => by simp [PyData.depth], fun x y => by simp [PyData.eqv]⟩
instance : Enc Str := ⟨.str, fun _ => by simp [PyData.plain], 0, fun _ => by simp [PyData.depth], fun x y => by simp [PyData.eqv]⟩
instance : Enc Unit := ⟨fun _ => .none, fun _ => by simp [PyData.plain], 0, fun _ => by simp [PyData.depth], fun x y => by simp [PyData.eqv]⟩
theorem plain_map {α : Type} [Enc α] : ∀ xs : List α, PyData.plainAll (xs.map en) = true
  | [] => by simp [PyData.plainAll]
  | x :: xs => by simp [PyData.plainAll, Enc.plain, plain_map xs]
theorem depth_map {α : Type} [Enc α] : ∀ xs : List α, PyData.depthAll (xs.map en) ≤ Enc.dep α
  | [] => by simp [PyData.depthAll]
  | x :: xs => by
    have := depth_map xs
    have := dep_en x
    simp only [List.map_cons, PyData.depthAll]
    omega
theorem eqv_map {α : Type} [Enc α] : ∀ xs ys : List α, PyData.eqvAll (xs.map en) (ys.map en) = true ↔ xs = ys
  | [], [] => by simp [PyData.eqvAll]
  | [], _ :: _ => by simp [PyData.eqvAll]
  | _ :: _, [] => by simp [PyData.eqvAll]
  | x :: xs, y :: ys => by simp [PyData.eqvAll, Enc.eqv, eqv_map xs ys]
instance {α : Type} [Enc α] : Enc (List α) := ⟨fun xs => .list (xs.map en), fun xs => by simp only [PyData.plain]; exact plain_map xs, Enc.dep α + 1, fun xs => by have := depth_map xs; simp only [PyData.depth]; omega, fun xs ys => by simp only [PyData.eqv]; exact eqv_map xs ys⟩
structure P2 (α β : Type) where
  a : α
  b : β
  deriving DecidableEq
structure P3 (α β γ : Type) where
  a : α
  b : β
  c : γ
  deriving DecidableEq
structure P4 (α β γ δ : Type) where
  a : α
  b : β
  c : γ
  d : δ
  deriving DecidableEq
instance {α β : Type} [Enc α] [Enc β] : Enc (P2 α β) := ⟨fun p => .tuple [en p.a, en p.b], fun p => by simp [PyData.plain, PyData.plainAll, Enc.plain], max (Enc.dep α) (Enc.dep β) + 1, fun p => by
  have := dep_en p.a; have := dep_en p.b
  simp only [PyData.depth, PyData.depthAll]; omega, fun p q => by
  cases p; cases q; simp [PyData.eqv, PyData.eqvAll, Enc.eqv]⟩
instance {α β γ : Type} [Enc α] [Enc β] [Enc γ] : Enc (P3 α β γ) := ⟨fun p => .tuple [en p.a, en p.b, en p.c], fun p => by simp [PyData.plain, PyData.plainAll, Enc.plain], max (max (Enc.dep α) (Enc.dep β)) (Enc.dep γ) + 1, fun p => by
  have := dep_en p.a; have := dep_en p.b; have := dep_en p.c
  simp only [PyData.depth, PyData.depthAll]; omega, fun p q => by
  cases p; cases q; simp [PyData.eqv, PyData.eqvAll, Enc.eqv]⟩
instance {α β γ δ : Type} [Enc α] [Enc β] [Enc γ] [Enc δ] : Enc (P4 α β γ δ) := ⟨fun p => .tuple [en p.a, en p.b, en p.c, en p.d], fun p => by simp [PyData.plain, PyData.plainAll, Enc.plain], max (max (Enc.dep α) (Enc.dep β)) (max (Enc.dep γ) (Enc.dep δ)) + 1, fun p => by
  have := dep_en p.a; have := dep_en p.b; have := dep_en p.c; have := dep_en p.d
  simp only [PyData.depth, PyData.depthAll]; omega, fun p q => by
  cases p; cases q; simp [PyData.eqv, PyData.eqvAll, Enc.eqv]⟩
def isNn : PyData → Bool | .none => true | _ => false
/-- never None -/
class EncN (α : Type) [Enc α] : Prop where
  nn : ∀ x : α, PyData.eqv .none (en x) = false ∧ PyData.eqv (en x) .none = false ∧ isNn (en x) = false
instance : EncN Int := ⟨fun x => ⟨rfl, rfl, rfl⟩⟩
instance : EncN Bool := ⟨fun x => ⟨rfl, rfl, rfl⟩⟩
instance : EncN Str := ⟨fun x => ⟨rfl, rfl, rfl⟩⟩
instance {α : Type} [Enc α] : EncN (List α) := ⟨fun x => ⟨by show PyData.eqv .none (.list _) = false; simp [PyData.eqv], by show PyData.eqv (.list _) .none = false; simp [PyData.eqv], rfl⟩⟩
instance {α β : Type} [Enc α] [Enc β] : EncN (P2 α β) := ⟨fun x => ⟨by show PyData.eqv .none (.tuple _) = false; simp [PyData.eqv], by show PyData.eqv (.tuple _) .none = false; simp [PyData.eqv], rfl⟩⟩
instance {α β γ : Type} [Enc α] [Enc β] [Enc γ] : EncN (P3 α β γ) := ⟨fun x => ⟨by show PyData.eqv .none (.tuple _) = false; simp [PyData.eqv], by show PyData.eqv (.tuple _) .none = false; simp [PyData.eqv], rfl⟩⟩
instance {α β γ δ : Type} [Enc α] [Enc β] [Enc γ] [Enc δ] : EncN (P4 α β γ δ) := ⟨fun x => ⟨by show PyData.eqv .none (.tuple _) = false; simp [PyData.eqv], by show PyData.eqv (.tuple _) .none = false; simp [PyData.eqv], rfl⟩⟩
def encO {α : Type} [Enc α] : Option α → PyData
  | none => .none
  | some x => en x
instance {α : Type} [Enc α] [EncN α] : Enc (Option α) := ⟨encO, fun x => by cases x; simp [encO, PyData.plain]; exact Enc.plain _, Enc.dep α, fun x => by
  cases x with
  | none => simp [encO, PyData.depth]
  | some x => exact Enc.depth x, fun x y => by
  cases x with
  | none => cases y with
    | none => simp [encO, PyData.eqv]
    | some y => simp [encO, (EncN.nn y).1]
  | some x => cases y with
    | none => simp [encO, (EncN.nn x).2.1]
    | some y => simp [encO, Enc.eqv]⟩
/-- without an address -/
class Flt (α : Type) [Enc α] : Prop where
  fl : ∀ x : α, scD (en x) = true
instance : Flt Int := ⟨fun _ => rfl⟩
instance : Flt Bool := ⟨fun _ => rfl⟩
instance : Flt Str := ⟨fun _ => rfl⟩
instance : Flt Unit := ⟨fun _ => rfl⟩
instance {α : Type} [Enc α] [EncN α] [Flt α] : Flt (Option α) := ⟨fun x => by
  cases x with
  | none => rfl
  | some x => exact Flt.fl x⟩
theorem all_flt {α : Type} [Enc α] [Flt α] : ∀ xs : List α, (xs.map en).all scD = true
  | [] => rfl
  | x :: xs => by simp [List.map_cons, List.all_cons, Flt.fl, all_flt xs]
abbrev aE {α : Type} [Enc α] (K : PySem.W.Frag) (x : α) : Abs := aD K (en x)
abbrev oE {α : Type} [Enc α] (K : PySem.W.Frag) (x : List α) : AbsO := oL K (x.map en)
theorem decide_eqv {α : Type} [Enc α] [DecidableEq α] (x y : α) : PyData.eqv (en x) (en y) = decide (x = y) := by
  cases h : PyData.eqv (en x) (en y) with
  | true => exact (decide_eq_true ((Enc.eqv x y).mp h)).symm
  | false => exact (decide_eq_false fun e => by rw [(Enc.eqv x y).mpr e] at h; cases h).symm
/-! ### data ==, of any texts -/
section
open PySem.SeqAt
variable {X : Cx}
def rEqP (K : PySem.W.Frag) : R2 := fun x y H Q => ∃ d e, Dp K H x d ∧ Dp K H y e ∧ d.plain = true ∧ e.plain = true ∧ d.depth ≤ 64 ∧ Q (.bl (PyData.eqv d e)) H
def rNeP (K : PySem.W.Frag) : R2 := fun x y H Q => ∃ d e, Dp K H x d ∧ Dp K H y e ∧ d.plain = true ∧ e.plain = true ∧ d.depth ≤ 64 ∧ Q (.bl (!PyData.eqv d e)) H
theorem op_eqP (hu : X.A.units + 64 < cLine) : OpR X (compareOp .Eq) (rEqP X.K) := by
  intro pins s σ H x y v u Q I rx ry h
  obtain ⟨d, e, hd, he, sd, se, hl, q⟩ := h
  obtain ⟨as, r1⟩ := Dp.reads I d x v hd rx
  obtain ⟨bs, r2⟩ := Dp.reads I e y u he ry
  exact eq_plain r1 r2 sd se (by omega) ⟨.bl _, H, I, rfl, q⟩
theorem op_neP (hu : X.A.units + 64 < cLine) : OpR X (compareOp .NotEq) (rNeP X.K) := by
  intro pins s σ H x y v u Q I rx ry h
  obtain ⟨d, e, hd, he, sd, se, hl, q⟩ := h
  obtain ⟨as, r1⟩ := Dp.reads I d x v hd rx
  obtain ⟨bs, r2⟩ := Dp.reads I e y u he ry
  exact ne_plain r1 r2 sd se (by omega) ⟨.bl _, H, I, rfl, q⟩
def rInP (K : PySem.W.Frag) : R2 := fun x y H Q => ∃ d ds, Dp K H x d ∧ Dp K H y (.list ds) ∧ d.plain = true ∧ PyData.plainAll ds = true ∧ d.depth ≤ 60 ∧ Q (.bl (ds.any fun z => PyData.eqv z d)) H
def rNotInP (K : PySem.W.Frag) : R2 := fun x y H Q => ∃ d ds, Dp K H x d ∧ Dp K H y (.list ds) ∧ d.plain = true ∧ PyData.plainAll ds = true ∧ d.depth ≤ 60 ∧ Q (.bl (!ds.any fun z => PyData.eqv z d)) H
end
/-! ### readings of expressions by programs -/
def DM (H0 : Hp) (ρ : List Slot) (t : TE) (f : Bool) {α : Type} (A : α → Abs) (m : Option α) : Prop := ∀ x, m = some x → DE H0 ρ t f (A x)
def DTm (K : PySem.W.Frag) (H0 : Hp) (ρ : List Slot) (t : TT) (m : Option Bool) : Prop := ∀ b, m = some b → DT K H0 ρ t b
def DOm (K : PySem.W.Frag) (H0 : Hp) (ρ : List Slot) (t : TO) (m : Option (Option Int)) : Prop := ∀ o, m = some o → DO K H0 ρ t o
def b1 {α γ : Type} (g : α → Option γ) (ma : Option α) : Option γ := ma.bind g
def b2 {α β γ : Type} (g : α → β → Option γ) (ma : Option α) (mb : Option β) : Option γ := ma.bind fun a => mb.bind fun b => g a b
def b3 {α β γ δ : Type} (g : α → β → γ → Option δ) (ma : Option α) (mb : Option β) (mc : Option γ) : Option δ := ma.bind fun a => mb.bind fun b => mc.bind fun c => g a b c
def b4 {α β γ δ ε : Type} (g : α → β → γ → δ → Option ε) (ma : Option α) (mb : Option β) (mc : Option γ) (md : Option δ) : Option ε := ma.bind fun a => mb.bind fun b => mc.bind fun c => md.bind fun d => g a b c d
def b5 {α β γ δ ε ζ : Type} (g : α → β → γ → δ → ε → Option ζ) (ma : Option α) (mb : Option β) (mc : Option γ) (md : Option δ) (me : Option ε) : Option ζ := ma.bind fun a => mb.bind fun b => mc.bind fun c => md.bind fun d => me.bind fun e => g a b c d e
theorem b1_some {α γ : Type} {g : α → Option γ} {ma : Option α} {z : γ} (h : b1 g ma = some z) : ∃ a, ma = some a ∧ g a = some z := Option.bind_eq_some_iff.mp h
theorem b2_some {α β γ : Type} {g : α → β → Option γ} {ma : Option α} {mb : Option β} {z : γ} (h : b2 g ma mb = some z) : ∃ a b, ma = some a ∧ mb = some b ∧ g a b = some z := by
  obtain ⟨a, h1, h⟩ := Option.bind_eq_some_iff.mp h
  obtain ⟨b, h2, h⟩ := Option.bind_eq_some_iff.mp h
  exact ⟨a, b, h1, h2, h⟩
theorem b3_some {α β γ δ : Type} {g : α → β → γ → Option δ} {ma : Option α} {mb : Option β} {mc : Option γ} {z : δ} (h : b3 g ma mb mc = some z) : ∃ a b c, ma = some a ∧ mb = some b ∧ mc = some c ∧ g a b c = some z := by
  obtain ⟨a, h1, h⟩ := Option.bind_eq_some_iff.mp h
  obtain ⟨b, c, h2, h3, h⟩ := b2_some (g := g a) h
  exact ⟨a, b, c, h1, h2, h3, h⟩
theorem b4_some {α β γ δ ε : Type} {g : α → β → γ → δ → Option ε} {ma : Option α} {mb : Option β} {mc : Option γ} {md : Option δ} {z : ε} (h : b4 g ma mb mc md = some z) : ∃ a b c d, ma = some a ∧ mb = some b ∧ mc = some c ∧ md = some d ∧ g a b c d = some z := by
  obtain ⟨a, h1, h⟩ := Option.bind_eq_some_iff.mp h
  obtain ⟨b, c, d, h2, h3, h4, h⟩ := b3_some (g := g a) h
  exact ⟨a, b, c, d, h1, h2, h3, h4, h⟩
section
variable {α β γ δ : Type} {a : α} {b : β} {c : γ} {d : δ}
@[simp] theorem b1_ss {g : α → Option γ} : b1 g (some a) = g a := rfl
@[simp] theorem b2_ss {g : α → β → Option γ} : b2 g (some a) (some b) = g a b := rfl
@[simp] theorem b3_ss {g : α → β → γ → Option δ} : b3 g (some a) (some b) (some c) = g a b c := rfl
@[simp] theorem b4_ss {ε : Type} {g : α → β → γ → δ → Option ε} : b4 g (some a) (some b) (some c) (some d) = g a b c d := rfl
@[simp] theorem b5_ss {ε ζ : Type} {e : ε} {g : α → β → γ → δ → ε → Option ζ} : b5 g (some a) (some b) (some c) (some d) (some e) = g a b c d e := rfl
end
instance {i j : Int} : Decidable (CMul i j) := by unfold CMul; infer_instance
instance {i j : Int} : Decidable (CPow i j) := by unfold CPow; infer_instance
instance {i j : Int} : Decidable (CDiv i j) := by unfold CDiv; infer_instance
def addI (i j : Int) : Option Int := some (i + j)
def subI (i j : Int) : Option Int := some (i - j)
def mulI (i j : Int) : Option Int := if CMul i j then some (i * j) else none
def divI (i j : Int) : Option Int := if CDiv i j then some (i / j) else none
def modI (i j : Int) : Option Int := if 0 < j then some (i % j) else none
@[irreducible] def powI (i j : Int) : Option Int := if CPow i j then some (i ^ j.toNat) else none
def negI (i : Int) : Option Int := some (-i)
def minI (i j : Int) : Option Int := some (if j < i then j else i)
def maxI (i j : Int) : Option Int := some (if j > i then j else i)
def ltI (i j : Int) : Option Bool := some (decide (i < j))
def leI (i j : Int) : Option Bool := some (decide (i ≤ j))
def gtI (i j : Int) : Option Bool := some (decide (j < i))
def geI (i j : Int) : Option Bool := some (decide (j ≤ i))
def eqM {α : Type} [DecidableEq α] (x y : α) : Option Bool := some (decide (x = y))
def neM {α : Type} [DecidableEq α] (x y : α) : Option Bool := some (!decide (x = y))
def inM {α : Type} [DecidableEq α] (x : α) (xs : List α) : Option Bool := some (decide (x ∈ xs))
def notInM {α : Type} [DecidableEq α] (x : α) (xs : List α) : Option Bool := some (!decide (x ∈ xs))
def andM (ma mb : Option Bool) : Option Bool := ma.bind fun a => if a = true then mb else some false
def orM (ma mb : Option Bool) : Option Bool := ma.bind fun a => if a = true then some true else mb
def notM (ma : Option Bool) : Option Bool := ma.bind fun a => some (!a)
def iteM {α : Type} (mc : Option Bool) (ma mb : Option α) : Option α := mc.bind fun c => if c = true then ma else mb
/-- a <= b < c: c is asked only where the first holds -/
def chM {α : Type} (g g' : α → α → Option Bool) (ma mb mc : Option α) : Option Bool := ma.bind fun a => mb.bind fun b => (g a b).bind fun k => if k = true then mc.bind fun c => g' b c else some false
def lenL {α : Type} (xs : List α) : Option Int := some xs.length
def lenS (z : Str) : Option Int := if z.length ≤ sizeLine then some z.length else none
def cutM {α : Type} (xs : List α) (lo hi : Option Int) : Option (List α) := some (cutD xs lo hi)
def catM {α : Type} (xs ys : List α) : Option (List α) := if xs.length + ys.length ≤ 100000 then some (xs ++ ys) else none
def listM {α : Type} (xs : List α) : Option (List α) := some xs
def allM (bs : List Bool) : Option Bool := some (bs.all id)
def joinM (z : Str) (ys : List Str) : Option Str := if (ys.map (·.length)).sum + ys.length * z.length ≤ 16777216 then some (Txt.join z ys) else none
def ixS (z : Str) (i : Int) : Option Str := if z.length ≤ sizeLine then (atI z.cps.toList i).map fun c => ⟨#[c]⟩ else none
def leS (i j : Str) : Option Bool := some (!decide (j.cps.toList < i.cps.toList))
def noneM : Option (Option Int) := some none
def someM (m : Option Int) : Option (Option Int) := m.map some
section
variable {H0 : Hp} {ρ : List Slot} {K : PySem.W.Frag} {f fa fb fc g : Bool} {ta tb tc te : TE} {α β γ δ : Type}
theorem dm_mk {A : α → Abs} {x : α} (h : DE H0 ρ te f (A x)) : DM H0 ρ te f A (some x) := fun y e => by cases e; exact h
theorem dm_var {A : α → Abs} {x : α} {i : Nat} (h : ρ[i]? = some (sl f (A x))) : DM H0 ρ (tVar i) f A (some x) := dm_mk (de_vs h)
theorem dm_up [Enc α] [Flt α] {m : Option α} (h : DM H0 ρ te f (aE K) m) : DM H0 ρ te g (aE K) m := fun x e => de_up (h x e) (Flt.fl x)
theorem dm_int {i : Int} : DM H0 ρ (tC (.int i)) true (aE K) (some i) := dm_mk de_int
theorem dm_str {i : Str} : DM H0 ρ (tC (.str i)) true (aE K) (some i) := dm_mk de_str
theorem dm_bl {i : Bool} : DM H0 ρ (tC (.bl i)) true (aE K) (some i) := dm_mk de_bl
theorem dm_nonO [Enc α] [EncN α] : DM H0 ρ (tC .non) true (aE K) (some (none : Option α)) := dm_mk (show DE H0 ρ _ true (aD K .none) from de_non)
theorem dm_someO [Enc α] [EncN α] {m : Option α} (h : DM H0 ρ te f (aE K) m) : DM H0 ρ te f (aE K) (m.map some) := fun x e => by
  obtain ⟨y, h1, rfl⟩ := Option.map_eq_some_iff.mp e
  exact h y h1
variable {mi mj mk : Option Int}
theorem dm_add (ha : DM H0 ρ ta fa (aE K) mi) (hb : DM H0 ρ tb fb (aE K) mj) : DM H0 ρ (tOp (rI0 fun i j => .int (i + j)) ta tb) true (aE K) (b2 addI mi mj) := fun x e => by
  obtain ⟨i, j, h1, h2, h⟩ := b2_some e; cases h; exact de_add (ha i h1) (hb j h2)
theorem dm_sub (ha : DM H0 ρ ta fa (aE K) mi) (hb : DM H0 ρ tb fb (aE K) mj) : DM H0 ρ (tOp (rI0 fun i j => .int (i - j)) ta tb) true (aE K) (b2 subI mi mj) := fun x e => by
  obtain ⟨i, j, h1, h2, h⟩ := b2_some e; cases h; exact de_sub (ha i h1) (hb j h2)
theorem dm_mul (ha : DM H0 ρ ta fa (aE K) mi) (hb : DM H0 ρ tb fb (aE K) mj) : DM H0 ρ (tOp (rI CMul fun i j => .int (i * j)) ta tb) true (aE K) (b2 mulI mi mj) := fun x e => by
  obtain ⟨i, j, h1, h2, h⟩ := b2_some e
  unfold mulI at h
  split at h
  · cases h; exact de_mul (ha i h1) (hb j h2) (by assumption)
  · cases h
theorem dm_div (ha : DM H0 ρ ta fa (aE K) mi) (hb : DM H0 ρ tb fb (aE K) mj) : DM H0 ρ (tOp (rI CDiv fun i j => .int (i / j)) ta tb) true (aE K) (b2 divI mi mj) := fun x e => by
  obtain ⟨i, j, h1, h2, h⟩ := b2_some e
  unfold divI at h
  split at h
  · cases h; exact de_fdiv (ha i h1) (hb j h2) (by assumption)
  · cases h
theorem dm_mod (ha : DM H0 ρ ta fa (aE K) mi) (hb : DM H0 ρ tb fb (aE K) mj) : DM H0 ρ (tOp (rI (fun _ j => 0 < j) fun i j => .int (i % j)) ta tb) true (aE K) (b2 modI mi mj) := fun x e => by
  obtain ⟨i, j, h1, h2, h⟩ := b2_some e
  unfold modI at h
  split at h
  · cases h; exact de_mod (ha i h1) (hb j h2) (by assumption)
  · cases h
theorem dm_pow (ha : DM H0 ρ ta fa (aE K) mi) (hb : DM H0 ρ tb fb (aE K) mj) : DM H0 ρ (tOp (rI CPow fun i j => .int (i ^ j.toNat)) ta tb) true (aE K) (b2 powI mi mj) := fun x e => by
  obtain ⟨i, j, h1, h2, h⟩ := b2_some e
  unfold powI at h
  split at h
  · cases h; exact de_pow (ha i h1) (hb j h2) (by assumption)
  · cases h
theorem dm_neg (ha : DM H0 ρ ta fa (aE K) mi) : DM H0 ρ (tUn (rU fun i => .int (-i)) ta) true (aE K) (b1 negI mi) := fun x e => by
  obtain ⟨i, h1, h⟩ := b1_some e; cases h; exact de_neg (ha i h1)
theorem dm_min (ha : DM H0 ρ ta fa (aE K) mi) (hb : DM H0 ρ tb fb (aE K) mj) : DM H0 ρ (tCB (fun xs H Q => ∃ i j, xs = [.int i, .int j] ∧ Q (.int (if j < i then j else i)) H) (tCons ta (tCons tb tNil))) true (aE K) (b2 minI mi mj) := fun x e => by
  obtain ⟨i, j, h1, h2, h⟩ := b2_some e; cases h; exact de_min (ha i h1) (hb j h2)
theorem dm_cmp {g : Int → Int → Bool} {G : Int → Int → Option Bool} (ha : DM H0 ρ ta fa (aE K) mi) (hb : DM H0 ρ tb fb (aE K) mj) (hg : ∀ i j, G i j = some (g i j)) : DM H0 ρ (tOp (rI0 fun i j => .bl (g i j)) ta tb) true (aE K) (b2 G mi mj) := fun x e => by
  obtain ⟨i, j, h1, h2, h⟩ := b2_some e
  rw [hg] at h
  cases h; exact de_cmp (ha i h1) (hb j h2)
theorem dm_eqI (ha : DM H0 ρ ta fa (aE K) mi) (hb : DM H0 ρ tb fb (aE K) mj) : DM H0 ρ (tOp rEq ta tb) true (aE K) (b2 eqM mi mj) := fun x e => by
  obtain ⟨i, j, h1, h2, h⟩ := b2_some e; cases h; exact de_eqI (ha i h1) (hb j h2)
theorem dm_neS {mi mj : Option Str} (ha : DM H0 ρ ta fa (aE K) mi) (hb : DM H0 ρ tb fb (aE K) mj) : DM H0 ρ (tOp rNe ta tb) true (aE K) (b2 neM mi mj) := fun x e => by
  obtain ⟨i, j, h1, h2, h⟩ := b2_some e; cases h; exact de_neS (ha i h1) (hb j h2)
theorem dm_eqP [Enc α] [DecidableEq α] {mi mj : Option α} (ha : DM H0 ρ ta fa (aE K) mi) (hb : DM H0 ρ tb fb (aE K) mj) (hd : Enc.dep α ≤ 64) : DM H0 ρ (tOp (rEqP K) ta tb) true (aE K) (b2 eqM mi mj) := fun x e => by
  obtain ⟨i, j, h1, h2, h⟩ := b2_some e; cases h
  refine de_op (ha i h1) (hb j h2) fun x y Hr H Q s p q k => ⟨_, _, dp_mono s _ _ p, dp_mono s _ _ q, Enc.plain _, Enc.plain _, Nat.le_trans (Enc.depth _) hd, k _ fun _ => ?_⟩
  rw [decide_eqv]; exact .bl _
theorem dm_neP [Enc α] [DecidableEq α] {mi mj : Option α} (ha : DM H0 ρ ta fa (aE K) mi) (hb : DM H0 ρ tb fb (aE K) mj) (hd : Enc.dep α ≤ 64) : DM H0 ρ (tOp (rNeP K) ta tb) true (aE K) (b2 neM mi mj) := fun x e => by
  obtain ⟨i, j, h1, h2, h⟩ := b2_some e; cases h
  refine de_op (ha i h1) (hb j h2) fun x y Hr H Q s p q k => ⟨_, _, dp_mono s _ _ p, dp_mono s _ _ q, Enc.plain _, Enc.plain _, Nat.le_trans (Enc.depth _) hd, k _ fun _ => ?_⟩
  rw [decide_eqv]; exact .bl _
variable {ma mb mc : Option Bool}
theorem dm_and (ha : DM H0 ρ ta fa (aE K) ma) (hb : DM H0 ρ tb fb (aE K) mb) : DM H0 ρ (tAndV ta tb) true (aE K) (andM ma mb) := fun x e => by
  obtain ⟨a, h1, h⟩ := Option.bind_eq_some_iff.mp e
  cases a with
  | true => exact de_eq (de_and (a := true) (b := x) (ha _ h1) (fun _ => hb x h)) rfl
  | false => cases h; exact de_eq (de_and (a := false) (b := true) (fb := true) (tb := tb) (ha _ h1) (fun z => nomatch z)) rfl
theorem dm_not (ha : DM H0 ρ ta fa (aE K) ma) : DM H0 ρ (tNotV ta) true (aE K) (notM ma) := fun x e => by
  obtain ⟨a, h1, h⟩ := Option.bind_eq_some_iff.mp e
  cases h; exact de_not (ha _ h1)
theorem de_isN2 {d : PyData} (h : DE H0 ρ ta fa (aD K d)) : DE H0 ρ (tIsN ta) true (aD K (.bool (isNn d))) := fun σ H Hr Q E k => h σ H Hr _ E fun v H' Hr' x q => k _ H' Hr' x (by cases q <;> exact .bl _)
theorem dm_chI {g g' : Int → Int → Bool} {G G' : Int → Int → Option Bool} (ha : DM H0 ρ ta fa (aE K) mi) (hb : DM H0 ρ tb fb (aE K) mj) (hc : DM H0 ρ tc fc (aE K) mk) (hg : ∀ i j, G i j = some (g i j)) (hg' : ∀ i j, G' i j = some (g' i j)) :
    DM H0 ρ (tChain (rI0 fun i j => .bl (g i j)) (rI0 fun i j => .bl (g' i j)) ta tb tc) true (aE K) (chM G G' mi mj mk) := fun x e => by
  obtain ⟨i, h1, e⟩ := Option.bind_eq_some_iff.mp e
  obtain ⟨j, h2, e⟩ := Option.bind_eq_some_iff.mp e
  rw [hg, Option.bind_some] at e
  cases hb1 : g i j with
  | false =>
    rw [hb1] at e
    cases e
    intro σ H Hr Q E k
    refine ha i h1 σ H Hr _ E fun x H1 Hr1 x1 q1 => hb j h2 σ H1 Hr1 _ (E.ext x1) fun y H2 Hr2 x2 q2 => ?_
    cases q1; cases q2
    refine ⟨i, j, rfl, rfl, g i j, rfl, ?_⟩
    rw [hb1, if_neg Bool.false_ne_true]
    exact k _ H2 Hr2 (x1.trans x2) (.bl _)
  | true =>
    rw [hb1, if_pos rfl] at e
    obtain ⟨m, h3, e⟩ := Option.bind_eq_some_iff.mp e
    rw [hg'] at e
    cases e
    exact de_eq (de_chI (ha i h1) (hb j h2) (hc m h3)) (by rw [hb1, Bool.true_and]; rfl)
theorem dm_chS {mi mj mk : Option Str} (ha : DM H0 ρ ta fa (aE K) mi) (hb : DM H0 ρ tb fb (aE K) mj) (hc : DM H0 ρ tc fc (aE K) mk) :
    DM H0 ρ (tChain (fun x y H Q => ∃ i j, x = .str i ∧ y = .str j ∧ Q (.bl (!decide (j.cps.toList < i.cps.toList))) H) (fun x y H Q => ∃ i j, x = .str i ∧ y = .str j ∧ Q (.bl (!decide (j.cps.toList < i.cps.toList))) H) ta tb tc) true (aE K) (chM leS leS mi mj mk) := fun x e => by
  obtain ⟨i, h1, e⟩ := Option.bind_eq_some_iff.mp e
  obtain ⟨j, h2, e⟩ := Option.bind_eq_some_iff.mp e
  unfold leS at e
  rw [Option.bind_some] at e
  cases hb1 : (!decide (j.cps.toList < i.cps.toList)) with
  | false =>
    rw [hb1] at e
    cases e
    intro σ H Hr Q E k
    refine ha i h1 σ H Hr _ E fun x H1 Hr1 x1 q1 => hb j h2 σ H1 Hr1 _ (E.ext x1) fun y H2 Hr2 x2 q2 => ?_
    cases q1; cases q2
    refine ⟨i, j, rfl, rfl, _, rfl, ?_⟩
    rw [hb1, if_neg Bool.false_ne_true]
    exact k _ H2 Hr2 (x1.trans x2) (.bl _)
  | true =>
    rw [hb1, if_pos rfl] at e
    obtain ⟨m, h3, e⟩ := Option.bind_eq_some_iff.mp e
    cases e
    exact de_eq (de_chS (ha i h1) (hb j h2) (hc m h3)) (by rw [hb1, Bool.true_and]; rfl)
/-! tests -/
theorem dtm_test {m : Option Bool} (h : DM H0 ρ te fa (aE K) m) : DTm K H0 ρ (tTest te) m := fun b e => dt_test (h b e)
theorem dtm_B {m : Option Bool} (h : DM H0 ρ te fa (aE K) m) : DTm K H0 ρ (tB te) m := fun b e => dt_B (h b e)
theorem dtm_and {t u : TT} (h : DTm K H0 ρ t ma) (h2 : DTm K H0 ρ u mb) : DTm K H0 ρ (tAnd t u) (andM ma mb) := fun x e => by
  obtain ⟨a, h1, h'⟩ := Option.bind_eq_some_iff.mp e
  cases a with
  | true => exact dt_eq (dt_and (b := x) (h _ h1) fun _ => h2 x h') (by simp)
  | false => cases h'; exact dt_eq (dt_and (b := true) (u := u) (h _ h1) fun z => nomatch z) rfl
theorem dtm_or {t u : TT} (h : DTm K H0 ρ t ma) (h2 : DTm K H0 ρ u mb) : DTm K H0 ρ (tOr t u) (orM ma mb) := fun x e => by
  obtain ⟨a, h1, h'⟩ := Option.bind_eq_some_iff.mp e
  cases a with
  | true => cases h'; exact dt_eq (dt_or (b := true) (u := u) (h _ h1) fun z => nomatch z) rfl
  | false => exact dt_eq (dt_or (b := x) (h _ h1) fun _ => h2 x h') (by simp)
theorem dtm_not {t : TT} (h : DTm K H0 ρ t ma) : DTm K H0 ρ (tNot t) (notM ma) := fun x e => by
  obtain ⟨a, h1, h'⟩ := Option.bind_eq_some_iff.mp e
  cases h'; exact dt_not (h _ h1)
theorem dtm_yes : DTm K H0 ρ tYes (some true) := fun b e => by cases e; exact dt_yes
/-! items, slices, lists -/
theorem dm_ix [Enc α] {m : Option (List α)} (ha : DM H0 ρ ta f (aE K) m) (hb : DM H0 ρ tb fb (aE K) mj) : DM H0 ρ (tOp (rIxL K) ta tb) f (aE K) (b2 atI m mj) := fun x e => by
  obtain ⟨xs, j, h1, h2, h⟩ := b2_some e
  refine de_ixL (ha xs h1) (hb j h2) ?_
  unfold atI at h ⊢
  rw [List.length_map]
  cases q : ixN xs.length j with
  | none => rw [q] at h; cases h
  | some i =>
    rw [q] at h
    have h' : xs[i]? = some x := h
    show (xs.map en)[i]? = some (en x)
    rw [List.getElem?_map, h']; rfl
theorem dm_ixF [Enc α] [Flt α] {m : Option (List α)} (ha : DM H0 ρ ta fa (aE K) m) (hb : DM H0 ρ tb fb (aE K) mj) : DM H0 ρ (tOp (rIxL K) ta tb) true (aE K) (b2 atI m mj) := dm_up (dm_ix ha hb)
theorem dm_ixS {m : Option Str} (ha : DM H0 ρ ta fa (aE K) m) (hb : DM H0 ρ tb fb (aE K) mj) : DM H0 ρ (tOp rIxS ta tb) true (aE K) (b2 ixS m mj) := fun x e => by
  obtain ⟨z, j, h1, h2, h⟩ := b2_some e
  unfold ixS at h
  split at h
  · obtain ⟨c, h3, rfl⟩ := Option.map_eq_some_iff.mp h
    exact de_ixS (ha z h1) (hb j h2) (by assumption) h3
  · cases h
theorem dom_no : DOm K H0 ρ tNoPart noneM := fun o e => by cases e; exact do_no
theorem dom_so (h : DM H0 ρ te fa (aE K) mi) : DOm K H0 ρ (tPart te) (someM mi) := fun o e => by
  obtain ⟨i, h1, rfl⟩ := Option.map_eq_some_iff.mp e
  exact do_so (h i h1)
theorem dm_sl [Enc α] {m : Option (List α)} {tl th : TO} {ml mh : Option (Option Int)} (h : DM H0 ρ te f (aE K) m) (hl : DOm K H0 ρ tl ml) (hh : DOm K H0 ρ th mh) : DM H0 ρ (tSl (rSlL K) te tl th) f (aE K) (b3 cutM m ml mh) := fun x e => by
  obtain ⟨xs, lo, hi, h1, h2, h3, h⟩ := b3_some e
  cases h
  exact de_eq (de_sl (h _ h1) (hl _ h2) (hh _ h3)) (by rw [cutD_map]; rfl)
theorem dm_slF [Enc α] [Flt α] {m : Option (List α)} {tl th : TO} {ml mh : Option (Option Int)} (h : DM H0 ρ te fa (aE K) m) (hl : DOm K H0 ρ tl ml) (hh : DOm K H0 ρ th mh) : DM H0 ρ (tSl (rSlL K) te tl th) true (aE K) (b3 cutM m ml mh) := fun x e => by
  obtain ⟨xs, lo, hi, h1, h2, h3, h⟩ := b3_some e
  cases h
  exact de_eq (de_slf (h _ h1) (hl _ h2) (hh _ h3) (all_flt xs)) (by rw [cutD_map]; rfl)
theorem dm_len [Enc α] {m : Option (List α)} (h : DM H0 ρ te fa (aE K) m) : DM H0 ρ (tCB (fun xs H Q => ∃ x n, xs = [x] ∧ LenV K x H n ∧ Q (.int n) H) (tCons te tNil)) true (aE K) (b1 lenL m) := fun x e => by
  obtain ⟨xs, h1, h2⟩ := b1_some e
  cases h2
  exact de_eq (de_lenL (h _ h1)) (by rw [List.length_map]; rfl)
theorem dm_lenS {m : Option Str} (h : DM H0 ρ te fa (aE K) m) : DM H0 ρ (tCB (fun xs H Q => ∃ x n, xs = [x] ∧ LenV K x H n ∧ Q (.int n) H) (tCons te tNil)) true (aE K) (b1 lenS m) := fun x e => by
  obtain ⟨xs, h1, h2⟩ := b1_some e
  unfold lenS at h2
  split at h2
  · cases h2
    exact de_len (h _ h1) ⟨by assumption, rfl⟩
  · cases h2
theorem dm_cat [Enc α] {m m' : Option (List α)} (ha : DM H0 ρ ta f (aE K) m) (hb : DM H0 ρ tb f (aE K) m') : DM H0 ρ (tOp (rCatS K) ta tb) f (aE K) (b2 catM m m') := fun x e => by
  obtain ⟨xs, ys, h1, h2, h⟩ := b2_some e
  unfold catM at h
  split at h
  · cases h
    exact de_eq (de_cat (ha _ h1) (hb _ h2) (by simpa using by assumption)) (by rw [← List.map_append]; rfl)
  · cases h
theorem dm_listF [Enc α] [Flt α] {m : Option (List α)} (h : DM H0 ρ te fa (aE K) m) : DM H0 ρ (tCB (fun xs H Q => ∃ p ys, xs = [.ref p] ∧ (SqL K H p ys ∨ SqT K H p ys) ∧ ∀ l, H l = none → Q (.ref l) (upd H l (.lst ys))) (tCons te tNil)) true (aE K) (b1 listM m) := fun x e => by
  obtain ⟨xs, h1, h2⟩ := b1_some e
  cases h2
  exact de_listOfS (h _ h1) (all_flt _)
theorem dm_all {m : Option (List Bool)} (h : DM H0 ρ te fa (aE K) m) : DM H0 ρ (tCB (rAll K) (tCons te tNil)) true (aE K) (b1 allM m) := fun x e => by
  obtain ⟨xs, h1, h2⟩ := b1_some e
  cases h2
  exact de_all (h _ h1)
theorem dm_join {mz : Option Str} {my : Option (List Str)} (ha : DM H0 ρ ta fa (aE K) mz) (hb : DM H0 ρ tb fb (aE K) my) :
    DM H0 ρ (tM1 (fun x xs H Q => ∃ a p, ∃ ys : List Str, x = .str a ∧ xs = [.ref p] ∧ (SqL K H p (ys.map V.str) ∨ SqT K H p (ys.map V.str)) ∧ (ys.map (·.length)).sum + ys.length * a.length ≤ 16777216 ∧ Q (.str (Txt.join a ys)) H) ta tb) true (aE K) (b2 joinM mz my) := fun x e => by
  obtain ⟨z, ys, h1, h2, h⟩ := b2_some e
  unfold joinM at h
  split at h
  · cases h
    exact de_join (ha _ h1) (hb _ h2) (by assumption)
  · cases h
/-! displays -/
def DAm (H0 : Hp) (K : PySem.W.Frag) (ρ : List Slot) (t : TA) (f : Bool) {α : Type} [Enc α] (m : Option (List α)) : Prop := ∀ xs, m = some xs → DAd H0 K ρ t f (xs.map en)
def consM {α : Type} (x : α) (xs : List α) : Option (List α) := some (x :: xs)
theorem dam_nil [Enc α] : DAm H0 K ρ tNil f (some ([] : List α)) := fun xs e => by cases e; exact dad_nil
theorem dam_cons [Enc α] {t : TA} {m : Option α} {ms : Option (List α)} (h : DM H0 ρ te f (aE K) m) (hr : DAm H0 K ρ t f ms) : DAm H0 K ρ (tCons te t) f (b2 consM m ms) := fun xs e => by
  obtain ⟨y, ys, h1, h2, h'⟩ := b2_some e
  cases h'
  exact dad_cons (h _ h1) (hr _ h2)
def shortM {α : Type} (xs : List α) : Option (List α) := if xs.length ≤ 1000 then some xs else none
theorem dm_lst [Enc α] {t : TA} {m : Option (List α)} (h : DAm H0 K ρ t f m) : DM H0 ρ (tLst t) f (aE K) (b1 shortM m) := fun xs e => by
  obtain ⟨ys, h1, h2⟩ := b1_some e
  unfold shortM at h2
  split at h2
  · rename_i hl; cases h2; exact de_lst (h _ h1) (by rw [List.length_map]; exact hl)
  · cases h2
def mk2 {α β : Type} (a : α) (b : β) : Option (P2 α β) := some ⟨a, b⟩
def mk3 {α β γ : Type} (a : α) (b : β) (c : γ) : Option (P3 α β γ) := some ⟨a, b, c⟩
def mk4 {α β γ δ : Type} (a : α) (b : β) (c : γ) (d : δ) : Option (P4 α β γ δ) := some ⟨a, b, c, d⟩
theorem dm_tup2 [Enc α] [Enc β] {m1 : Option α} {m2 : Option β} (h1 : DM H0 ρ ta f (aE K) m1) (h2 : DM H0 ρ tb f (aE K) m2) : DM H0 ρ (tTup (tCons ta (tCons tb tNil))) f (aE K) (b2 mk2 m1 m2) := fun xs e => by
  obtain ⟨a, b, e1, e2, h⟩ := b2_some e
  cases h
  exact de_tup (dad_cons (h1 _ e1) (dad_cons (h2 _ e2) dad_nil))
theorem dm_tup4 [Enc α] [Enc β] [Enc γ] [Enc δ] {td : TE} {m1 : Option α} {m2 : Option β} {m3 : Option γ} {m4 : Option δ} (h1 : DM H0 ρ ta f (aE K) m1) (h2 : DM H0 ρ tb f (aE K) m2) (h3 : DM H0 ρ tc f (aE K) m3) (h4 : DM H0 ρ td f (aE K) m4) : DM H0 ρ (tTup (tCons ta (tCons tb (tCons tc (tCons td tNil))))) f (aE K) (b4 mk4 m1 m2 m3 m4) := fun xs e => by
  obtain ⟨a, b, c, d, e1, e2, e3, e4, h⟩ := b4_some e
  cases h
  exact de_tup (dad_cons (h1 _ e1) (dad_cons (h2 _ e2) (dad_cons (h3 _ e3) (dad_cons (h4 _ e4) dad_nil))))
/-- p[k], k written -/
theorem dm_ixT2a [Enc α] [Enc β] {m : Option (P2 α β)} (h : DM H0 ρ ta f (aE K) m) : DM H0 ρ (tOp (rIxT K) ta (tC (.int 0))) f (aE K) (m.map P2.a) := fun x e => by
  obtain ⟨p, h1, rfl⟩ := Option.map_eq_some_iff.mp e
  exact de_ixT (fb := true) (h p h1) de_int rfl
theorem dm_ixT2b [Enc α] [Enc β] {m : Option (P2 α β)} (h : DM H0 ρ ta f (aE K) m) : DM H0 ρ (tOp (rIxT K) ta (tC (.int 1))) f (aE K) (m.map P2.b) := fun x e => by
  obtain ⟨p, h1, rfl⟩ := Option.map_eq_some_iff.mp e
  exact de_ixT (fb := true) (h p h1) de_int rfl
theorem dm_ixT4a [Enc α] [Enc β] [Enc γ] [Enc δ] {m : Option (P4 α β γ δ)} (h : DM H0 ρ ta f (aE K) m) : DM H0 ρ (tOp (rIxT K) ta (tC (.int 0))) f (aE K) (m.map P4.a) := fun x e => by
  obtain ⟨p, h1, rfl⟩ := Option.map_eq_some_iff.mp e
  exact de_ixT (fb := true) (h p h1) de_int rfl
/-! borrowing -/
theorem dm_bor [Enc α] [Flt α] {ρ' : List Slot} {m : Option α} (bo : Bo H0 ρ ρ') (h : DM H0 ρ' te f (aE K) m) : DM H0 ρ te true (aE K) m := fun x e => de_bor bo (h x e) (Flt.fl x)
theorem dtm_bor {ρ' : List Slot} {t : TT} {m : Option Bool} (bo : Bo H0 ρ ρ') (h : DTm K H0 ρ' t m) : DTm K H0 ρ t m := fun x e => dt_bor bo (h x e)
theorem bo_ownE [Enc α] {i : Nat} {xs : List α} (hi : ρ[i]? = some (.own (oE K xs))) : Bo H0 ρ (ρ.set i (sl true (aE K xs))) := bo_own hi
end
/-! ### calls -/
def sp1 {α γ : Type} (A : α → Abs) (C : γ → Abs) (F : α → Option γ) : Spec := fun As R => ∃ a c, As = [A a] ∧ F a = some c ∧ R = C c
def sp2 {α β γ : Type} (A : α → Abs) (B : β → Abs) (C : γ → Abs) (F : α → β → Option γ) : Spec := fun As R => ∃ a b c, As = [A a, B b] ∧ F a b = some c ∧ R = C c
def sp3 {α β δ γ : Type} (A : α → Abs) (B : β → Abs) (D : δ → Abs) (C : γ → Abs) (F : α → β → δ → Option γ) : Spec := fun As R => ∃ a b d c, As = [A a, B b, D d] ∧ F a b d = some c ∧ R = C c
def sp4 {α β δ ε γ : Type} (A : α → Abs) (B : β → Abs) (D : δ → Abs) (E : ε → Abs) (C : γ → Abs) (F : α → β → δ → ε → Option γ) : Spec := fun As R => ∃ a b d e c, As = [A a, B b, D d, E e] ∧ F a b d e = some c ∧ R = C c
def sp5 {α β δ ε ζ γ : Type} (A : α → Abs) (B : β → Abs) (D : δ → Abs) (E : ε → Abs) (G : ζ → Abs) (C : γ → Abs) (F : α → β → δ → ε → ζ → Option γ) : Spec := fun As R => ∃ a b d e g c, As = [A a, B b, D d, E e, G g] ∧ F a b d e g = some c ∧ R = C c
section
variable {H0 : Hp} {ρ ρ' : List Slot} {K : PySem.W.Frag} {f fa fb fc fd fe : Bool} {ta tb tc td te : TE} {α β γ δ ε ζ : Type} {A : α → Abs} {B : β → Abs} {C : γ → Abs} {D : δ → Abs} {E' : ε → Abs} {G : ζ → Abs} {Ex : XK} {ma : Option α} {mb : Option β} {md : Option δ} {me : Option ε} {mg : Option ζ}
theorem dm_call1 {F : α → Option γ} (bo : Bo H0 ρ ρ') (h1 : DM H0 ρ' ta fa A ma) : DM H0 ρ (tCall (spF (sp1 A C F)) [] Ex (tCons ta tNil)) true C (b1 F ma) := fun x e => by
  obtain ⟨a, e1, h⟩ := b1_some e
  exact de_call bo (da_cons (h1 _ e1) da_nil) ⟨a, x, rfl, h, rfl⟩
theorem dm_call2 {F : α → β → Option γ} (bo : Bo H0 ρ ρ') (h1 : DM H0 ρ' ta fa A ma) (h2 : DM H0 ρ' tb fb B mb) : DM H0 ρ (tCall (spF (sp2 A B C F)) [] Ex (tCons ta (tCons tb tNil))) true C (b2 F ma mb) := fun x e => by
  obtain ⟨a, b, e1, e2, h⟩ := b2_some e
  exact de_call bo (da_cons (h1 _ e1) (da_cons (h2 _ e2) da_nil)) ⟨a, b, x, rfl, h, rfl⟩
theorem dm_call3 {F : α → β → δ → Option γ} (bo : Bo H0 ρ ρ') (h1 : DM H0 ρ' ta fa A ma) (h2 : DM H0 ρ' tb fb B mb) (h3 : DM H0 ρ' tc fc D md) : DM H0 ρ (tCall (spF (sp3 A B D C F)) [] Ex (tCons ta (tCons tb (tCons tc tNil)))) true C (b3 F ma mb md) := fun x e => by
  obtain ⟨a, b, d, e1, e2, e3, h⟩ := b3_some e
  exact de_call bo (da_cons (h1 _ e1) (da_cons (h2 _ e2) (da_cons (h3 _ e3) da_nil))) ⟨a, b, d, x, rfl, h, rfl⟩
/-! methods of objects: A is an object's -/
variable {Cl : Addr} {m : Str} {O : α → List (Str × Abs)}
theorem dm_meth0 {F : α → Option γ} (h1 : DM H0 ρ ta fa (fun a => aIns Cl (O a)) ma) (hl : ∀ a, (O a).lookup m = none) : DM H0 ρ (tMeth Cl m (spF (sp1 (fun a => aIns Cl (O a)) C F)) [] Ex ta tNil) true C (b1 F ma) := fun x e => by
  obtain ⟨a, e1, h⟩ := b1_some e
  exact de_meth (h1 _ e1) (hl a) da_nil ⟨a, x, rfl, h, rfl⟩
theorem dm_meth1 {F : α → β → Option γ} (h1 : DM H0 ρ ta fa (fun a => aIns Cl (O a)) ma) (h2 : DM H0 ρ tb fb B mb) (hl : ∀ a, (O a).lookup m = none) : DM H0 ρ (tMeth Cl m (spF (sp2 (fun a => aIns Cl (O a)) B C F)) [] Ex ta (tCons tb tNil)) true C (b2 F ma mb) := fun x e => by
  obtain ⟨a, b, e1, e2, h⟩ := b2_some e
  exact de_meth (h1 _ e1) (hl a) (da_cons (h2 _ e2) da_nil) ⟨a, b, x, rfl, h, rfl⟩
theorem dm_fld {x : Str} {B : β → Abs} {p : α → β} (h : DM H0 ρ ta f (fun a => aIns Cl (O a)) ma) (hc : Cls K Cl) (hn : NoAttr K Cl x) (hl : ∀ a, (O a).lookup x = some (B (p a))) : DM H0 ρ (tFld K ta x) f B (ma.map p) := fun y e => by
  obtain ⟨a, h1, rfl⟩ := Option.map_eq_some_iff.mp e
  exact de_fld (h a h1) hc hn (hl a)
def si1 {α γ : Type} (A : α → Abs) (O : γ → List (Str × Abs)) (F : α → Option γ) : List Abs → List (Str × Abs) → Prop := fun As fas => ∃ a c, As = [A a] ∧ F a = some c ∧ fas = O c
def si3 {α β δ γ : Type} (A : α → Abs) (B : β → Abs) (D : δ → Abs) (O : γ → List (Str × Abs)) (F : α → β → δ → Option γ) : List Abs → List (Str × Abs) → Prop := fun As fas => ∃ a b d c, As = [A a, B b, D d] ∧ F a b d = some c ∧ fas = O c
theorem dm_make1 {O : γ → List (Str × Abs)} {F : α → Option γ} (bo : Bo H0 ρ ρ') (h1 : DM H0 ρ' ta fa A ma) : DM H0 ρ (tMake Cl (spI (si1 A O F) Cl) [] Ex (tCons ta tNil)) true (fun c => aIns Cl (O c)) (b1 F ma) := fun x e => by
  obtain ⟨a, e1, h⟩ := b1_some e
  exact de_make bo (da_cons (h1 _ e1) da_nil) ⟨a, x, rfl, h, rfl⟩
end
end Kj

set_option Elab.async false
set_option linter.all false
set_option maxRecDepth 100000
set_option maxHeartbeats 4000000
/-! Kj11: walks, comprehensions, blocks, defs, by programs. -/
namespace Kj
open PySem L2
/-! ### walks -/
def DWm (H0 : Hp) (ρ : List Slot) (wi : TI) (f : Bool) {α : Type} (A : α → Abs) (m : Option (List α)) : Prop := ∀ xs, m = some xs → DW H0 ρ wi xs.length f (fun i => match xs[i]? with | some x => A x | none => aNo)
@[irreducible] def rngM (j : Int) : Option (List Int) := if -(2 ^ 62) ≤ j ∧ j < 2 ^ 62 then some ((List.range j.toNat).map fun n : Nat => (n : Int)) else none
@[irreducible] def rng2M (l j : Int) : Option (List Int) := if -(2 ^ 62) ≤ l ∧ l < 2 ^ 62 ∧ -(2 ^ 62) ≤ j ∧ j < 2 ^ 62 then some ((List.range (j - l).toNat).map fun n : Nat => l + (n : Int)) else none
def strM (z : Str) : Option (List Str) := some (z.cps.toList.map fun c => (⟨#[c]⟩ : Str))
def zipM {α β : Type} (xs : List α) (ys : List β) : Option (List (P2 α β)) := some ((xs.zip ys).map fun p => ⟨p.1, p.2⟩)
def enumM {α : Type} (xs : List α) : Option (List (P2 Int α)) := some (xs.zipIdx.map fun p => ⟨(p.2 : Int), p.1⟩)
section
variable {H0 : Hp} {ρ : List Slot} {K : PySem.W.Frag} {f fa fb fc g : Bool} {ta tb tc te : TE} {α β γ δ : Type}
theorem dw_congr {wi : TI} {n : Nat} {As As' : Nat → Abs} (h : DW H0 ρ wi n f As) (e : ∀ i, i < n → As i = As' i) : DW H0 ρ wi n f As' := fun σ H Hr R E k => h σ H Hr R E fun J H' Hr' x w => k J H' Hr' x fun G Gr s1 s2 s3 => by
  obtain ⟨w1, w2⟩ := w G Gr s1 s2 s3
  exact ⟨fun i hi => ⟨(w1 i hi).1, fun x G' y => by
    obtain ⟨Gr', x', a⟩ := (w1 i hi).2 x G' y
    exact ⟨Gr', x', e i hi ▸ a⟩⟩, w2⟩
theorem dwm_list [Enc α] {m : Option (List α)} (h : DM H0 ρ te f (aE K) m) : DWm H0 ρ (iList K te) f (aE K) m := fun xs e => by
  have w := dw_list (h xs e)
  rw [List.length_map] at w
  refine dw_congr w fun i hi => ?_
  rw [List.getD_eq_getElem?_getD, List.getElem?_map, List.getElem?_eq_getElem hi]
  rfl
theorem dwm_rng1 {m : Option Int} (h : DM H0 ρ te fa (aE K) m) : DWm H0 ρ (iRng1 (tCons te tNil)) true (aE K) (b1 rngM m) := fun xs e => by
  obtain ⟨j, h1, h2⟩ := b1_some e
  unfold rngM at h2
  split at h2
  · rename_i hb
    cases h2
    have w := dw_rng1 (f := true) (h j h1) hb.1 hb.2
    rw [List.length_map, List.length_range]
    refine dw_congr w fun i hi => ?_
    rw [List.getElem?_map, List.getElem?_range hi]
    rfl
  · cases h2
theorem dwm_rng2 {m m' : Option Int} (h : DM H0 ρ ta fa (aE K) m) (h' : DM H0 ρ tb fb (aE K) m') : DWm H0 ρ (iRng2 (tCons ta (tCons tb tNil))) true (aE K) (b2 rng2M m m') := fun xs e => by
  obtain ⟨l, j, h1, h2, h3⟩ := b2_some e
  unfold rng2M at h3
  split at h3
  · rename_i hb
    cases h3
    have w := dw_rng2 (f := true) (h l h1) (h' j h2) hb
    rw [List.length_map, List.length_range]
    refine dw_congr w fun i hi => ?_
    rw [List.getElem?_map, List.getElem?_range hi]
    rfl
  · cases h3
theorem dwm_str {m : Option Str} (h : DM H0 ρ te fa (aE K) m) : DWm H0 ρ (iStr te) true (aE K) (b1 strM m) := fun xs e => by
  obtain ⟨z, h1, h2⟩ := b1_some e
  cases h2
  have w := dw_str (f := true) (h z h1)
  rw [List.length_map, Array.length_toList]
  refine dw_congr w fun i hi => ?_
  rw [List.getElem?_map, Array.getElem?_toList, Array.getElem?_eq_getElem hi, Array.getD_eq_getD_getElem?, Array.getElem?_eq_getElem hi]
  rfl
theorem dwm_enum [Enc α] {m : Option (List α)} (h : DM H0 ρ ta f (aE K) m) : DWm H0 ρ (iEnum K (tCons ta tNil)) f (aE K) (b1 enumM m) := fun xs e => by
  obtain ⟨us, h1, h3⟩ := b1_some e
  cases h3
  have w := dw_enum (h us h1)
  rw [List.length_map] at w
  rw [List.length_map, List.length_zipIdx]
  refine dw_congr w fun i hi => ?_
  rw [List.getElem?_map, List.getElem?_zipIdx, List.getElem?_eq_getElem hi, List.getD_eq_getElem?_getD, List.getElem?_map, List.getElem?_eq_getElem hi]
  show aD K _ = aD K _
  congr 3
  show PyData.int (i : Int) = PyData.int ((0 + i : Nat) : Int)
  rw [Nat.zero_add]
/-! ### comprehensions -/
def lcF {α β : Type} (g : α → Option (Option β)) : List α → Option (List β)
  | [] => some []
  | x :: xs => (g x).bind fun o => (lcF g xs).bind fun ys => some (o.toList ++ ys)
@[irreducible] def lcM {α β : Type} (g : α → Option (Option β)) (xs : List α) : Option (List β) := if xs.length ≤ 100000 then lcF g xs else none
def lcE {β : Type} (mt : Option Bool) (me : Option β) : Option (Option β) := mt.bind fun b => if b = true then me.map some else some none
theorem EnvOk.out2 {σ : St} {H Hr : Hp} (E : EnvOk H0 σ ρ H Hr) (nr : noReg ρ = true) {D : Addr} {o : HO} (hD : ∀ (i : Nat) (B : AbsO) (p : Addr), ρ[i]? = some (.own B) → σ[i]? = some (some (.ref p)) → p ≠ D) (h0 : H0 D = none) (hr : Hr D = none) : EnvOk H0 σ ρ (upd H D o) Hr := by
  refine ⟨fun a u e => ?_, fun a u e => ?_, E.len, fun i s hs => ?_, E.dis, .nil (noReg_at nr)⟩
  · rw [upd_ne (ne_of_none e h0)]; exact E.base _ _ e
  · rw [upd_ne (ne_of_none e hr)]; exact E.sub _ _ e
  · have q := E.slot i s hs
    cases s with
    | no => trivial
    | dat A => exact q
    | new A => exact q
    | reg A => trivial
    | own B =>
      obtain ⟨p, o', e1, e2, e3, e4, e5⟩ := q
      exact ⟨p, o', e1, e2, e3, by rw [upd_ne (hD i B p hs e1)]; exact e4, e5⟩
theorem de_lc2 {wi : TI} {n : Nat} {As : Nat → Abs} {g : TG} {tt : TT} {vs : List Nat} {fw : Bool} (hw : DW H0 ρ wi n fw As) (nr : noReg ρ = true) (hn : n ≤ 100000) (e : Nat → Option PyData)
    (hs : ∀ k, k < n → ∃ r', DG H0 (wipeS ρ vs) g fw (As k) r' vs ∧ DT K H0 r' tt (e k).isSome ∧ ∀ d, e k = some d → DE H0 r' te f (aD K d)) : DE H0 ρ (tLc wi g tt te vs) f (aD K (.list (made e n))) := fun σ H Hr Q E k => by
  refine hw σ H Hr _ E fun J H1 Hr1 x1 wk D hD => ?_
  have E1 := E.ext x1
  have hr1 : Hr1 D = none := x1.s.free hD
  have hd0 : H0 D = none := E1.base.free hD
  have hDo : ∀ (i : Nat) (B : AbsO) (p : Addr), (wipeS ρ vs)[i]? = some (.own B) → (wipe σ vs)[i]? = some (some (.ref p)) → p ≠ D := fun i B p h1 h2 => by
    obtain ⟨q, o, q1, _, _, q4, _⟩ := (E1.wipe vs).slot i _ h1
    rw [h2] at q1
    cases q1
    exact ne_of_none q4 hD
  let Pv : Nat → Hp → Prop := fun i G => ∃ Gr ys, G D = some (.lst ys) ∧ Gr D = none ∧ EnvOk H0 (wipe σ vs) (wipeS ρ vs) G Gr ∧ Same Hr1 Gr ∧ Same H1 G ∧ (∀ a o, Gr a = some o → Hr1 a = none → H1 a = none) ∧ DpAll K (hp f Gr H0) ys (made e i)
  have up : Same H1 (upd H1 D (.lst [])) := fun a u q => by rw [upd_ne (ne_of_none q hD)]; exact q
  refine ⟨fun i m G => m = n - i ∧ i ≤ n ∧ Pv i G, ⟨n, by simp, Nat.zero_le _, Hr1, [], upd_same, hr1, (E1.wipe vs).out2 (noReg_wipe nr vs) hDo hd0 hr1, Same.refl _, up, (fun a o h h' => by rw [h] at h'; cases h'), .nil⟩, ?_⟩
  rintro i m G ⟨rfl, hi, Gr, ys, hG, hGr, EG, s1, s2, nw, dp⟩
  obtain ⟨w1, w2⟩ := wk G Gr s1 EG.sub EG.base
  by_cases hlt : i < n
  · obtain ⟨go, yl⟩ := w1 i hlt
    refine .inr ⟨go, Pv (i + 1), fun G' q => ⟨n - (i + 1), by omega, rfl, hlt, q⟩, fun x G2 y => ?_⟩
    obtain ⟨Gr2, x2, a2⟩ := yl x G2 y
    obtain ⟨r', dg, dt, de⟩ := hs i hlt
    refine dg _ G2 Gr2 x _ (EG.ext x2) a2 fun σ2 E2 ew => ⟨?_, ?_⟩
    · rw [ew]
      clear dg dt de
      have : ∀ (us : List Nat) (τ : St), (∀ v ∈ us, v ∈ vs) → wipe (wipe τ us) vs = wipe τ vs := by
        intro us
        induction us with
        | nil => intro τ _; rfl
        | cons v us ih =>
          intro τ h
          show wipe ((wipe τ us).set v none) vs = _
          rw [wipe_set (h v (by simp))]
          exact ih τ fun v hv => h v (by simp [hv])
      exact this vs σ fun v h => h
    · have keepD : ∀ {A B C1 C2 : Hp}, Ext A B C1 C2 → A D = some (.lst ys) → B D = none → C1 D = some (.lst ys) ∧ C2 D = none := fun {A B C1 C2} xx ha hb => ⟨xx.h _ _ ha, by
        cases q : C2 D with
        | none => rfl
        | some o => have := xx.n D o q hb; rw [ha] at this; cases this⟩
      obtain ⟨d2, e2⟩ := keepD x2 hG hGr
      refine dt σ2 G2 Gr2 _ E2 fun G3 Gr3 x3 => ?_
      obtain ⟨d3, e3⟩ := keepD x3 d2 e2
      have x23 := x2.trans x3
      have nw' : ∀ {C1 C2 : Hp}, Ext G Gr C1 C2 → ∀ a o, C2 a = some o → Hr1 a = none → H1 a = none := fun {C1 C2} xx a o q q' => by
        cases z : Gr a with
        | some u => exact nw a u z q'
        | none => exact s2.free (xx.n a o q z)
      cases he : e i with
      | none =>
        rw [Option.isSome_none, if_neg Bool.false_ne_true]
        refine ⟨Gr3, ys, d3, e3, EG.ext x23, s1.trans x23.r, s2.trans x23.h, nw' x23, ?_⟩
        unfold made
        rw [he]
        show DpAll K _ ys (made e i ++ [])
        rw [List.append_nil]
        exact dpa_mono (hp_mono f H0 x23.r) _ _ dp
      | some d =>
        rw [Option.isSome_some, if_pos rfl]
        refine de d he σ2 G3 Gr3 _ (E2.ext x3) fun y G4 Gr4 x4 a4 => ?_
        obtain ⟨d4, e4⟩ := keepD x4 d3 e3
        have x24 := x23.trans x4
        refine ⟨ys, d4, ?_, Gr4, ys ++ [y], upd_same, e4, (EG.ext x24).out2 (noReg_wipe nr vs) hDo hd0 e4, s1.trans x24.r, ?_, nw' x24, ?_⟩
        · rw [dpa_len dp]
          have := made_len e i
          exact Nat.lt_of_le_of_lt (show _ ≤ 100000 by omega) (by rw [sizeLine_eq]; decide)
        · exact fun a u q => by rw [upd_ne (ne_of_none q hD)]; exact x24.h _ _ (s2 _ _ q)
        · unfold made
          rw [he]
          exact dpa_app (dpa_mono (hp_mono f H0 x24.r) _ _ dp) (.cons a4 .nil)
  · have e' : i = n := by omega
    subst e'
    refine .inl ⟨w2, k (.ref D) G (upd Gr D (.lst ys)) (x1.trans ⟨s2, fun a u q => by rw [upd_ne (ne_of_none q hr1)]; exact s1 _ _ q, fun a u q => ?_, fun a o q q' => ?_⟩) (.lst (SqL.of ?_) (dpa_mono (hp_mono f H0 fun a u q => by rw [upd_ne (ne_of_none q hGr)]; exact q) _ _ dp))⟩
    · by_cases z : a = D
      · subst z; rw [upd_same] at q; cases q; exact hG
      · rw [upd_ne z] at q; exact EG.sub _ _ q
    · by_cases z : a = D
      · subst z; exact hD
      · rw [upd_ne z] at q; exact nw a o q q'
    · cases f
      · exact upd_same
      · exact mns_some.mpr ⟨hd0, upd_same⟩
theorem lcF_at {α β : Type} {g : α → Option (Option β)} : ∀ {xs : List α} {ys : List β}, lcF g xs = some ys → ∀ (i : Nat) (x : α), xs[i]? = some x → ∃ o, g x = some o
  | [], _, _, i, x, e => by simp at e
  | y :: xs, ys, h, 0, x, e => by
    obtain ⟨o, h1, _⟩ := Option.bind_eq_some_iff.mp h
    simp at e; subst e
    exact ⟨o, h1⟩
  | y :: xs, ys, h, i + 1, x, e => by
    obtain ⟨o, h1, h2⟩ := Option.bind_eq_some_iff.mp h
    obtain ⟨zs, h3, _⟩ := Option.bind_eq_some_iff.mp h2
    exact lcF_at h3 i x (by simpa using e)
/-- what stands in the list, by turns -/
theorem made_cons (e : Nat → Option PyData) : ∀ n, made e (n + 1) = (e 0).toList ++ made (fun k => e (k + 1)) n
  | 0 => by simp [made]
  | n + 1 => by
    show made e (n + 1) ++ (e (n + 1)).toList = _
    rw [made_cons e n, List.append_assoc]
    rfl
theorem made_lc {α β : Type} [Enc β] {g : α → Option (Option β)} : ∀ {xs : List α} {ys : List β}, lcF g xs = some ys →
    made (fun i => match xs[i]? with | some x => (match g x with | some (some y) => some (en y) | _ => none) | none => none) xs.length = ys.map en
  | [], ys, h => by cases h; rfl
  | x :: xs, ys, h => by
    obtain ⟨o, h1, h2⟩ := Option.bind_eq_some_iff.mp h
    obtain ⟨zs, h3, h4⟩ := Option.bind_eq_some_iff.mp h2
    cases h4
    rw [List.length_cons, made_cons]
    have ih := made_lc h3
    simp only [List.getElem?_cons_zero, List.getElem?_cons_succ, h1]
    rw [ih, List.map_append]
    cases o <;> rfl
theorem dm_lc [Enc β] {Ax : α → Abs} {mit : Option (List α)} {mt : α → Option Bool} {me : α → Option β} {r' : α → List Slot} {wi : TI} {g : TG} {tt : TT} {vs : List Nat} {fw : Bool} (hw : DWm H0 ρ wi fw Ax mit)
    (hg : ∀ x, DG H0 (wipeS ρ vs) g fw (Ax x) (r' x) vs) (ht : ∀ x, DTm K H0 (r' x) tt (mt x)) (he : ∀ x, DM H0 (r' x) te f (aE K) (me x)) (nr : noReg ρ = true := by rfl) : DM H0 ρ (tLc wi g tt te vs) f (aE K) (b1 (lcM fun x => lcE (mt x) (me x)) mit) := fun ys e => by
  obtain ⟨xs, h1, h2⟩ := b1_some e
  unfold lcM at h2
  split at h2
  · rename_i hl
    refine de_eq (de_lc2 (hw xs h1) nr hl (fun i => match xs[i]? with | some x => (match lcE (mt x) (me x) with | some (some y) => some (en y) | _ => none) | none => none) fun k hk => ?_) (congrArg PyData.list (made_lc h2))
    simp only [List.getElem?_eq_getElem hk]
    refine ⟨_, hg xs[k], ?_, fun d hd => ?_⟩
    · obtain ⟨o, ho⟩ := lcF_at h2 k xs[k] (List.getElem?_eq_getElem hk)
      rw [ho]
      obtain ⟨b, hb, ho⟩ := Option.bind_eq_some_iff.mp ho
      cases b with
      | true =>
        rw [if_pos rfl] at ho
        obtain ⟨y, hy, rfl⟩ := Option.map_eq_some_iff.mp ho
        exact ht _ _ hb
      | false =>
        rw [if_neg Bool.false_ne_true] at ho
        cases ho
        exact ht _ _ hb
    · obtain ⟨o, ho⟩ := lcF_at h2 k xs[k] (List.getElem?_eq_getElem hk)
      rw [ho] at hd
      obtain ⟨b, hb, ho⟩ := Option.bind_eq_some_iff.mp ho
      cases b with
      | true =>
        rw [if_pos rfl] at ho
        obtain ⟨y, hy, rfl⟩ := Option.map_eq_some_iff.mp ho
        cases hd
        exact he _ _ hy
      | false =>
        rw [if_neg Bool.false_ne_true] at ho
        cases ho
        cases hd
  · cases h2
end
/-! ### blocks -/
/-- what is raised: the class's name, its fields -/
structure Exn where
  name : Str
  flds : List (Str × Int)
  deriving DecidableEq
def xP (K : PySem.W.Frag) (e : Exn) : XA := fun cls d H => cls = .ref (He.ga K e.name) ∧ (match e.flds with
  | [] => d = none
  | fs => ∃ p, d = some p ∧ H p = some (.xd (fs.map fun q => (q.1, .int q.2))))
inductive Fl (S R : Type) where
  | nx (s : S)
  | rt (r : R)
  | ex (e : Exn)
/-- what a def that may raise comes to -/
inductive Rs (R : Type) where
  | ok (r : R)
  | ex (e : Exn)
  deriving DecidableEq
def bindF {S1 S R : Type} (m : Option (Fl S1 R)) (k : S1 → Option (Fl S R)) : Option (Fl S R) := m.bind fun fl => match fl with | .nx s => k s | .rt r => some (.rt r) | .ex e => some (.ex e)
@[simp] theorem bindF_nx {S1 S R : Type} {s : S1} {k : S1 → Option (Fl S R)} : bindF (some (.nx s)) k = k s := rfl
@[simp] theorem bindF_rt {S1 S R : Type} {r : R} {k : S1 → Option (Fl S R)} : bindF (some (.rt r)) k = some (.rt r) := rfl
@[simp] theorem bindF_ex {S1 S R : Type} {e : Exn} {k : S1 → Option (Fl S R)} : bindF (some (.ex e)) k = some (.ex e) := rfl
def flR {S R : Type} (A : R → Abs) : Fl S R → Abs
  | .rt r => A r
  | .nx _ => aNo
  | .ex _ => aNo
def flZ {S R : Type} (K : PySem.W.Frag) : Fl S R → List Slot → XA
  | .ex e => fun _ => xP K e
  | .nx _ => fun _ _ _ _ => False
  | .rt _ => fun _ _ _ _ => False
/-- the way out by a raise -/
structure WK where
  W : WX
  K : PySem.W.Frag
abbrev wz {S R : Type} (G : WK) (fl : Fl S R) : WZ := ⟨G.W, flZ G.K fl⟩
def DB (G : WK) (H0 : Hp) (ρ : List Slot) (t : TS) {S R : Type} (A : R → Abs) (m : Option (Fl S R)) (B : S → List Slot) : Prop := ∀ fl, m = some fl → DS (wz G fl) H0 ρ t (fun r => ∃ s, fl = .nx s ∧ r = B s) (flR A fl)
inductive Wk1 : Slot → Slot → Prop
  | same {s : Slot} : Wk1 s s
  | drop {s : Slot} : Wk1 s .no
  | low {A : Abs} : Wk1 (sl true A) (sl false A)
inductive Wks : List Slot → List Slot → Prop
  | nil : Wks [] []
  | cons {s s' : Slot} {l l' : List Slot} : Wk1 s s' → Wks l l' → Wks (s :: l) (s' :: l')
theorem Wks.rfl : ∀ {l : List Slot}, Wks l l
  | [] => .nil
  | _ :: _ => .cons .same Wks.rfl
theorem Wks.at : ∀ {l l' : List Slot}, Wks l l' → ∀ (i : Nat) (s' : Slot), l'[i]? = some s' → ∃ s, l[i]? = some s ∧ Wk1 s s'
  | _, _, .nil, i, s', e => by simp at e
  | _, _, .cons h t, 0, s', e => by simp at e; subst e; exact ⟨_, by simp, h⟩
  | _, _, .cons h t, i + 1, s', e => by
    obtain ⟨s, h1, h2⟩ := t.at i s' (by simpa using e)
    exact ⟨s, by simpa using h1, h2⟩
theorem Wks.len : ∀ {l l' : List Slot}, Wks l l' → l.length = l'.length
  | _, _, .nil => by rfl
  | _, _, .cons _ t => by simp [t.len]
theorem wk_own {s : Slot} {B : AbsO} (h : Wk1 s (.own B)) : s = .own B := by
  cases h; rfl
theorem EnvOk.wk {H0 : Hp} {σ : St} {ρ ρ' : List Slot} {H Hr : Hp} (E : EnvOk H0 σ ρ H Hr) (w : Wks ρ ρ') : EnvOk H0 σ ρ' H Hr := by
  refine ⟨E.base, E.sub, by rw [E.len, w.len], fun i s hs => ?_, fun i j p B B' hij hi hj ei ej => ?_, E.reg.to (fun i A h => by
    obtain ⟨s0, h1, h2⟩ := w.at i _ h
    cases h2
    exact ⟨h1, rfl⟩) (fun a o h1 h2 h3 _ => ⟨h1, h2, h3⟩) fun j B p h hs => by
    obtain ⟨s0, h1, h2⟩ := w.at j _ h
    have e := wk_own h2
    subst e
    exact .inl ⟨B, h1, hs⟩⟩
  · obtain ⟨s0, h1, h2⟩ := w.at i s hs
    have q := E.slot i s0 h1
    cases h2 with
    | same => exact q
    | drop => trivial
    | low => obtain ⟨v, e, a⟩ := q; exact ⟨v, e, Abs.mono _ _ _ _ mns_sub a⟩
  · obtain ⟨s0, h1, h2⟩ := w.at i _ hi
    obtain ⟨s1, h3, h4⟩ := w.at j _ hj
    have e1 := wk_own h2
    have e2 := wk_own h4
    subst e1 e2
    exact E.dis i j p B B' hij h1 h3 ei ej
def forF {α S R : Type} (b : α → S → Option (Fl S R)) : List α → S → Option (Fl S R)
  | [], s => some (.nx s)
  | x :: xs, s => bindF (b x s) fun s' => forF b xs s'
def whileF {S R : Type} (c : S → Option Bool) (b : S → Option (Fl S R)) : Nat → S → Option (Fl S R)
  | 0, _ => none
  | n + 1, s => (c s).bind fun t => if t = true then bindF (b s) fun s' => whileF c b n s' else some (.nx s)
@[irreducible] def fuelN : Nat := 100000
def finF {S R : Type} (m : Option (Fl S R)) : Option R := m.bind fun fl => match fl with | .rt r => some r | _ => none
/-- a def that hands back None where its block ends -/
def finN {S : Type} (m : Option (Fl S Unit)) : Option Unit := m.bind fun fl => match fl with | .ex _ => none | _ => some ()
def finO {S R : Type} (m : Option (Fl S (Option R))) : Option (Option R) := m.bind fun fl => match fl with | .rt r => some r | .nx _ => some none | .ex _ => none
/-- of a def that may raise -/
def finX {S R : Type} (m : Option (Fl S R)) : Option (Rs R) := m.bind fun fl => match fl with | .rt r => some (.ok r) | .ex e => some (.ex e) | .nx _ => none
def finXN {S : Type} (m : Option (Fl S Unit)) : Option (Rs Unit) := m.bind fun fl => match fl with | .ex e => some (.ex e) | _ => some (.ok ())
def finXO {S R : Type} (m : Option (Fl S (Option R))) : Option (Rs (Option R)) := m.bind fun fl => match fl with | .rt r => some (.ok r) | .nx _ => some (.ok none) | .ex e => some (.ex e)
@[simp] theorem finF_rt {S R : Type} {r : R} : finF (some (.rt r) : Option (Fl S R)) = some r := rfl
@[simp] theorem finN_nx {S : Type} {r : S} : finN (some (.nx r : Fl S Unit)) = some () := rfl
@[simp] theorem finN_rt {S : Type} {r : Unit} : finN (some (.rt r : Fl S Unit)) = some () := rfl
@[simp] theorem finO_nx {S R : Type} {r : S} : finO (some (.nx r : Fl S (Option R))) = some none := rfl
@[simp] theorem finO_rt {S R : Type} {r : Option R} : finO (some (.rt r : Fl S (Option R))) = some r := rfl
@[simp] theorem finX_rt {S R : Type} {r : R} : finX (some (.rt r) : Option (Fl S R)) = some (.ok r) := rfl
@[simp] theorem finX_ex {S R : Type} {e : Exn} : finX (some (.ex e) : Option (Fl S R)) = some (.ex e) := rfl
@[simp] theorem finXN_nx {S : Type} {r : S} : finXN (some (.nx r : Fl S Unit)) = some (.ok ()) := rfl
@[simp] theorem finXN_rt {S : Type} {r : Unit} : finXN (some (.rt r : Fl S Unit)) = some (.ok ()) := rfl
@[simp] theorem finXN_ex {S : Type} {e : Exn} : finXN (some (.ex e : Fl S Unit)) = some (.ex e) := rfl
def appM {α β : Type} (xs : List α) (x : α) (k : List α → Option β) : Option β := if xs.length < 100000 then k (xs ++ [x]) else none
section
variable {G : WK} {C : WZ} {H0 : Hp} {ρ ρ' : List Slot} {K : PySem.W.Frag} {f fa fb fc : Bool} {ta tb tc te : TE} {α β γ δ S S1 R : Type} {A : R → Abs} {B : S → List Slot} {t u w : TS}
theorem ds_wk {N : List Slot → Prop} {Rr : Abs} (w : Wks ρ ρ') (h : DS C H0 ρ' t N Rr) : DS C H0 ρ t N Rr := fun σ H Hr D E kn kr kx => h σ H Hr D (E.wk w) kn kr kx
theorem ds_noR {N : List Slot → Prop} {Rr : Abs} (h : DS C H0 ρ t N aNo) : DS C H0 ρ t N Rr := fun σ H Hr D E kn kr kx => h σ H Hr D E kn (fun v H' s _ z => z.elim) kx
theorem bindF_some {m : Option (Fl S1 R)} {k : S1 → Option (Fl S R)} {fl : Fl S R} (h : bindF m k = some fl) : (∃ s, m = some (.nx s) ∧ k s = some fl) ∨ (∃ r, m = some (.rt r) ∧ fl = .rt r) ∨ ∃ e, m = some (.ex e) ∧ fl = .ex e := by
  obtain ⟨x, h1, h2⟩ := Option.bind_eq_some_iff.mp h
  cases x with
  | nx s => exact .inl ⟨s, h1, h2⟩
  | rt r => cases h2; exact .inr (.inl ⟨r, h1, rfl⟩)
  | ex e => cases h2; exact .inr (.inr ⟨e, h1, rfl⟩)
/-- a way out that nothing takes may be any -/
theorem ds_noX {W : WX} {Z : List Slot → XA} {N : List Slot → Prop} {Rr : Abs} (h : DS ⟨W, fun _ _ _ _ => False⟩ H0 ρ t N Rr) : DS ⟨W, Z⟩ H0 ρ t N Rr := fun σ H Hr D E kn kr kx => h σ H Hr D E kn kr (KX.no fun _ _ _ _ z => z)
theorem db_wk {m : Option (Fl S R)} (w : Wks ρ ρ') (h : DB G H0 ρ' t A m B) : DB G H0 ρ t A m B := fun fl e => ds_wk w (h fl e)
theorem db_nx {s : S} (w : Wks ρ (B s)) : DB G H0 ρ tNext A (some (.nx s)) B := fun fl e => by
  cases e
  exact ds_wk w (ds_next ⟨s, rfl, rfl⟩)
theorem db_none : DB G H0 ρ t A (none : Option (Fl S R)) B := fun fl e => by cases e
theorem db_seq {m : Option (Fl S1 R)} {k : S1 → Option (Fl S R)} {B1 : S1 → List Slot} (h : DB G H0 ρ t A m B1) (hk : ∀ s, DB G H0 (B1 s) u A (k s) B) : DB G H0 ρ (tSeq t u) A (bindF m k) B := fun fl e => by
  rcases bindF_some e with ⟨s, h1, h2⟩ | ⟨r, h1, rfl⟩ | ⟨x, h1, rfl⟩
  · refine ds_seq (ds_noX (ds_noR (h _ h1))) fun r hr => ?_
    obtain ⟨s', e1, rfl⟩ := hr
    cases e1
    exact hk s fl h2
  · refine ds_seq (h _ h1) fun r hr => ?_
    obtain ⟨s', e1, _⟩ := hr
    cases e1
  · refine ds_seq (h _ h1) fun r hr => ?_
    obtain ⟨s', e1, _⟩ := hr
    cases e1
theorem db_set {i : Nat} {Ax : α → Abs} {m : Option α} {k : α → Option (Fl S R)} (h : DM H0 ρ te f Ax m) (hk : ∀ x, DB G H0 (ρ.set i (sl f (Ax x))) u A (k x) B) (hi : Nat.blt i ρ.length = true := by rfl) : DB G H0 ρ (tSeq (tAsg te (gName i)) u) A (b1 k m) B := fun fl e => by
  obtain ⟨x, h1, h2⟩ := b1_some e
  exact ds_sq (ds_set (h x h1) hi) (hk x fl h2)
theorem db_tset {Ax : α → Abs} {m : Option α} {k : α → Option (Fl S R)} {g : TG} {r' : α → List Slot} {vs : List Nat} (h : DM H0 ρ te f Ax m) (hg : ∀ x, DG H0 ρ g f (Ax x) (r' x) vs) (hk : ∀ x, DB G H0 (r' x) u A (k x) B) : DB G H0 ρ (tSeq (tAsg te g) u) A (b1 k m) B := fun fl e => by
  obtain ⟨x, h1, h2⟩ := b1_some e
  refine ds_sq (ρ1 := r' x) (fun σ H Hr D E kn kr kx => ?_) (hk x fl h2)
  exact h x h1 σ H Hr _ E fun v H1 Hr1 x1 a1 => hg x σ H1 Hr1 v _ (E.ext x1) a1 fun σ' E' _ => kn _ _ _ Hr1 rfl E' x1.r
theorem db_drop {Ax : α → Abs} {m : Option α} {k : Option (Fl S R)} (h : DM H0 ρ te f Ax m) (hk : DB G H0 ρ u A k B) : DB G H0 ρ (tSeq (tDrop te) u) A (b1 (fun _ => k) m) B := fun fl e => by
  obtain ⟨x, h1, h2⟩ := b1_some e
  exact ds_sq (ds_drop (h x h1)) (hk fl h2)
theorem db_ret {m : Option R} (h : DM H0 ρ te true A m) : DB G H0 ρ (tSeq (tRet te) u) A (b1 (fun r => some (Fl.rt r : Fl S R)) m) B := fun fl e => by
  obtain ⟨x, h1, h2⟩ := b1_some e
  cases h2
  exact ds_rets (h x h1) fun v G z => z
theorem db_if {ct : TT} {mc : Option Bool} {m1 m2 : Option (Fl S1 R)} {k : S1 → Option (Fl S R)} {B1 : S1 → List Slot} (hc : DTm K H0 ρ ct mc) (h1 : DB G H0 ρ t A m1 B1) (h2 : DB G H0 ρ w A m2 B1) (hk : ∀ s, DB G H0 (B1 s) u A (k s) B) :
    DB G H0 ρ (tSeq (tIfS ct t w) u) A (bindF (iteM mc m1 m2) k) B := by
  refine db_seq (B1 := B1) (fun fl e => ?_) hk
  obtain ⟨c, e1, e2⟩ := Option.bind_eq_some_iff.mp e
  refine ds_if (hc c e1) (fun z => ?_) (fun z => ?_)
  · subst z; exact h1 fl e2
  · subst z; exact h2 fl e2
theorem db_own [Enc α] {i : Nat} {k : List α → Option (Fl S R)} (hk : ∀ x : List α, DB G H0 (ρ.set i (.own (oE K x))) u A (k x) B) (hi : Nat.blt i ρ.length = true := by rfl) : DB G H0 ρ (tSeq (tAsg (tLst tNil) (gName i)) u) A (b1 k (some ([] : List α))) B := fun fl e => ds_sq (ds_own hi) (hk [] fl e)
theorem db_app [Enc α] {i : Nat} {xs : List α} {m : Option α} {k : List α → Option (Fl S R)} (hi : ρ[i]? = some (.own (oE K xs))) (h : DM H0 ρ te true (aE K) m) (hk : ∀ x : List α, DB G H0 (ρ.set i (.own (oE K x))) u A (k x) B) : DB G H0 ρ (tSeq (tDrop (tBM K "list" rAppend (tVar i) (tCons te tNil))) u) A (b1 (fun x => appM xs x k) m) B := fun fl e => by
  obtain ⟨y, h1, h2⟩ := b1_some e
  unfold appM at h2
  split at h2
  · rename_i hl
    have d := ds_app (C := wz G fl) (R := flR A fl) hi (h y h1) (by rw [List.length_map]; exact hl)
    rw [show xs.map en ++ [en y] = (xs ++ [y]).map en by simp] at d
    exact ds_sq d (hk _ fl h2)
  · cases h2
theorem db_bor {m : Option (Fl S R)} (bo : Bo H0 ρ ρ') (h : DB G H0 ρ' t A m B) : DB G H0 ρ t A m B := fun fl e => ds_bor bo (h fl e)
theorem ds_forW {wi : TI} {n : Nat} {As : Nat → Abs} {g : TG} {tb : TS} {Rr : Abs} {ρ0 : List Slot} (hw : DW H0 ρ wi n f As) (I : Nat → List Slot → Prop) (w0 : Wks ρ ρ0) (h0 : I 0 ρ0)
    (hs : ∀ (k : Nat) (r : List Slot), k < n → I k r → ∃ r' vs, DG H0 r g f (As k) r' vs ∧ DS C H0 r' tb (I (k + 1)) Rr) : DS C H0 ρ (tFor wi g tb) (I n) Rr := fun σ H Hr D E kn kr kx => by
  refine hw σ H Hr _ E fun J H1 Hr1 x1 wk => ?_
  refine ⟨fun i m σ' H' => m = n - i ∧ i ≤ n ∧ ∃ r Hr', I i r ∧ EnvOk H0 σ' r H' Hr' ∧ Same Hr1 Hr', ⟨n, by simp, Nat.zero_le _, ρ0, Hr1, h0, (E.ext x1).wk w0, Same.refl _⟩, ?_⟩
  rintro i m σ' H' ⟨rfl, hi, r, Hr', i', E', s⟩
  obtain ⟨w1, w2⟩ := wk H' Hr' s E'.sub E'.base
  by_cases hlt : i < n
  · obtain ⟨go, yl⟩ := w1 i hlt
    refine .inr ⟨go, fun σ2 H2 => ∃ r Hr', I (i + 1) r ∧ EnvOk H0 σ2 r H2 Hr' ∧ Same Hr1 Hr', fun σ2 H2 q => ⟨n - (i + 1), by omega, rfl, hlt, q⟩, fun x H2 y => ?_⟩
    obtain ⟨Hr2, x2, a2⟩ := yl x H2 y
    obtain ⟨r', vs, dg, ds⟩ := hs i r hlt i'
    exact dg σ' H2 Hr2 x _ (E'.ext x2) a2 fun σ2 E2 _ => ds σ2 H2 Hr2 _ E2 (fun r3 σ3 H3 Hr3 n3 E3 s3 => ⟨r3, Hr3, n3, E3, (s.trans x2.r).trans s3⟩) (kr.up (x1.r.trans (s.trans x2.r))) (kx.up (x1.r.trans (s.trans x2.r)))
  · have e : i = n := by omega
    subst e
    exact .inl ⟨w2, kn r σ' H' Hr' i' E' (x1.r.trans s)⟩
theorem db_for {Ax : α → Abs} {mit : Option (List α)} {wi : TI} {g : TG} {tb : TS} {vs : List Nat} {body : α → S1 → Option (Fl S1 R)} {s0 : S1} {k : S1 → Option (Fl S R)} {B1 : S1 → List Slot} {r' : α → S1 → List Slot}
    (hw : DWm H0 ρ wi f Ax mit) (w0 : Wks ρ (B1 s0)) (hg : ∀ x s, DG H0 (B1 s) g f (Ax x) (r' x s) vs) (hb : ∀ x s, DB G H0 (r' x s) tb A (body x s) B1) (hk : ∀ s, DB G H0 (B1 s) u A (k s) B) :
    DB G H0 ρ (tSeq (tFor wi g tb) u) A (bindF (b1 (fun xs => forF body xs s0) mit) k) B := by
  refine db_seq (B1 := B1) (fun fl e => ?_) hk
  obtain ⟨xs, h1, h2⟩ := b1_some e
  have d := ds_forW (C := wz G fl) (Rr := flR A fl) (tb := tb) (g := g) (ρ0 := B1 s0) (hw xs h1) (fun i r => ∃ s, r = B1 s ∧ forF body (xs.drop i) s = some fl) w0 ⟨s0, rfl, h2⟩ ?_
  · refine ds_imp d ?_
    rintro r ⟨s, rfl, h3⟩
    rw [List.drop_length] at h3
    cases h3
    exact ⟨s, rfl, rfl⟩
  · rintro i r hi ⟨s, rfl, h3⟩
    rw [List.drop_eq_getElem_cons hi] at h3
    simp only [List.getElem?_eq_getElem hi]
    refine ⟨_, vs, hg xs[i] s, ?_⟩
    rcases bindF_some h3 with ⟨s', e1, e2⟩ | ⟨r, e1, rfl⟩ | ⟨r, e1, rfl⟩
    · refine ds_imp (ds_noX (ds_noR (hb _ _ _ e1))) ?_
      rintro r ⟨s2, e3, rfl⟩
      cases e3
      exact ⟨s', rfl, e2⟩
    · refine ds_imp (hb _ _ _ e1) ?_
      rintro r ⟨s2, e3, _⟩
      cases e3
    · refine ds_imp (hb _ _ _ e1) ?_
      rintro r ⟨s2, e3, _⟩
      cases e3
theorem db_while {ct : TT} {tb : TS} {c : S1 → Option Bool} {body : S1 → Option (Fl S1 R)} {n : Nat} {s0 : S1} {k : S1 → Option (Fl S R)} {B1 : S1 → List Slot} (w0 : Wks ρ (B1 s0)) (hc : ∀ s, DTm K H0 (B1 s) ct (c s)) (hb : ∀ s, DB G H0 (B1 s) tb A (body s) B1) (hk : ∀ s, DB G H0 (B1 s) u A (k s) B) :
    DB G H0 ρ (tSeq (tWhile ct tb) u) A (bindF (whileF c body n s0) k) B := by
  refine db_wk w0 (db_seq (B1 := B1) (fun fl e => ?_) hk)
  refine ds_while (C := wz G fl) (K := K) (fun m r => ∃ s, r = B1 s ∧ whileF c body m s = some fl) n ⟨s0, rfl, e⟩ ?_
  rintro m r ⟨s, rfl, h⟩
  cases m with
  | zero => cases h
  | succ m =>
    obtain ⟨b, h1, h2⟩ := Option.bind_eq_some_iff.mp h
    refine ⟨b, hc s b h1, fun z => ?_, fun z => ?_⟩
    · subst z
      rw [if_pos rfl] at h2
      rcases bindF_some h2 with ⟨s', e1, e2⟩ | ⟨r, e1, rfl⟩ | ⟨r, e1, rfl⟩
      · refine ds_imp (ds_noX (ds_noR (hb _ _ e1))) ?_
        rintro r ⟨s2, e3, rfl⟩
        cases e3
        exact ⟨m, Nat.lt_succ_self _, s', rfl, e2⟩
      · refine ds_imp (hb _ _ e1) ?_
        rintro r ⟨s2, e3, _⟩
        cases e3
      · refine ds_imp (hb _ _ e1) ?_
        rintro r ⟨s2, e3, _⟩
        cases e3
    · subst z
      rw [if_neg Bool.false_ne_true] at h2
      cases h2
      exact ⟨s, rfl, rfl⟩
theorem db_fin {m : Option (Fl S R)} {c : R} {N : List Slot → Prop} (h : DB ⟨C0.W, K⟩ H0 ρ t A m B) (e : finF m = some c) : DS C0 H0 ρ t N (A c) := by
  obtain ⟨fl, h1, h2⟩ := Option.bind_eq_some_iff.mp e
  cases fl with
  | nx s => cases h2
  | rt r => cases h2; exact ds_imp (h _ h1) fun r ⟨s, e, _⟩ => by cases e
  | ex r => cases h2
theorem db_finN {m : Option (Fl S Unit)} {c : Unit} (h : DB ⟨C0.W, K⟩ H0 ρ t (aE K) m B) (e : finN m = some c) : DS C0 H0 ρ t (fun _ => ∀ G, (aE K c).p .non G) (aE K c) := by
  obtain ⟨fl, h1, h2⟩ := Option.bind_eq_some_iff.mp e
  cases fl with
  | nx s => exact ds_imp (ds_noR (h _ h1)) fun r _ G => .non
  | rt r => exact ds_imp (h _ h1) fun r ⟨s, e, _⟩ => by cases e
  | ex r => cases h2
end
section
variable {P : Program} {w : World} {K : PySem.W.Frag} {mg : Str → Option Value} {base : Heap}
/-- a def whose block may come to its end: None -/
theorem fnN_ok {x qual : Str} {st : Stmt} {f : Addr} {fd : FuncData} {N ps : List Str} {k : Nat} {S : Spec} (F : FnP K x qual st f fd) (Sc : FnScope N ps (defScope st)) (len : ∀ As R, S As R → As.length = ps.length)
    (body : ∀ (cdv : Value) (A : Around) (outer : List Env) (s : Shared) (H : Hp) (E : XK), Room k (A.deeper (PyProof.Rows.envOfC qual (defScope st) s.heap.objs.size f cdv)) →
      ∃ t, PSs (cxOf CX0 P w K mg base N qual (defScope st) f cdv A outer s H E).nox (defBody st) t ∧ ∀ H0 As R, S As R → DS C0 H0 (As.map Slot.dat ++ List.replicate (N.length - As.length) Slot.no) t (fun _ => ∀ G, R.p .non G) R) : FnOk P w K mg base CX0 (k + 1) f fd ps (spF S) := by
  refine F.ok Sc (fun vs H Q E h => ?_) (fun cdv A outer s H vs Q E hr h => ?_)
  · obtain ⟨As, R, h1, h2, _⟩ := h
    rw [← h2.length]; exact len As R h1
  · obtain ⟨As, R, h1, h2, h3⟩ := h
    obtain ⟨t, p, d⟩ := body cdv A outer s H E hr
    refine ⟨t, p.nox, d H As R h1 _ H H _ ?_ (fun _ _ H' _ n E' _ => h3 .non H' E'.base (n _)) (fun v H' s _ r => h3 v H' s r) (KX.no fun _ _ _ _ z => z)⟩
    have e := env_start (n := N.length - vs.length) h2
    unfold L2.start
    rw [h2.length]
    exact e
theorem initM_ok {x qual : Str} {st : Stmt} {f C : Addr} {fd : FuncData} {N ps : List Str} {p0 : Str} {k : Nat} {S : List Abs → List (Str × Abs) → Prop} (F : FnP K x qual st f fd) (Sc : FnScope N (p0 :: ps) (defScope st)) (len : ∀ As fas, S As fas → As.length = ps.length)
    (body : ∀ (cdv : Value) (A : Around) (outer : List Env) (s : Shared) (H : Hp) (E : XK), Room k (A.deeper (PyProof.Rows.envOfC qual (defScope st) s.heap.objs.size f cdv)) →
      ∃ t, PSs (cxOf CX0 P w K mg base N qual (defScope st) f cdv A outer s H E).nox (defBody st) t ∧ ∀ H0 xo dx As fas, S As fas → DS C0 H0 (.own (oIns xo C dx []) :: (As.map Slot.dat ++ List.replicate (N.length - (As.length + 1)) Slot.no)) t (fun r => ∃ rest, r = .own (oIns xo C dx fas) :: rest) aNo) : FnOk P w K mg base CX0 (k + 1) f fd (p0 :: ps) (spI S C) := by
  refine initD_ok F Sc len fun cdv A outer s H E hr As fas hS => ?_
  obtain ⟨t, p, d⟩ := body cdv A outer s H E hr
  exact ⟨t, p, fun H0 xo dx => d H0 xo dx As fas hS⟩
theorem lawM_ok {x qual : Str} {st : Stmt} {f : Addr} {fd : FuncData} {N : List Str} {p : Str} {k : Nat} {F' : List Int → Option Bool} (F : FnP K x qual st f fd) (Sc : FnScope N [p] (defScope st)) (hL : ∀ ns : List Int, ns.length ≤ 63 → F' ns = some true)
    (body : ∀ (cdv : Value) (A : Around) (outer : List Env) (s : Shared) (H : Hp) (E : XK), Room k (A.deeper (PyProof.Rows.envOfC qual (defScope st) s.heap.objs.size f cdv)) →
      ∃ t, PSs (cxOf CX0 P w K mg base N qual (defScope st) f cdv A outer s H E).nox (defBody st) t ∧ ∀ H0 As R, sp1 (aE K) (aE K) F' As R → DS C0 H0 (As.map Slot.dat ++ List.replicate (N.length - As.length) Slot.no) t (fun _ => ∀ G, R.p .non G) R) : FnOk P w K mg base CX0 (k + 1) f fd [p] (spL K) := by
  refine lawD_ok F Sc fun cdv A outer s H E hr ns hl => ?_
  obtain ⟨t, q, d⟩ := body cdv A outer s H E hr
  refine ⟨t, q, fun H0 => ?_⟩
  have e := d H0 [aE K ns] (aE K true) ⟨ns, true, rfl, hL ns hl, rfl⟩
  exact ds_imp e fun r z => by cases z (fun _ => none)
end
end Kj

set_option Elab.async false
set_option linter.all false
set_option maxRecDepth 100000
set_option maxHeartbeats 4000000
/-! Kj12: makers, xs[::-1]. -/
namespace Kj
open PySem L2
def revM {α : Type} (xs : List α) : Option (List α) := some xs.reverse
def finI {S R : Type} (m : Option (Fl S R)) : Option S := m.bind fun fl => match fl with | .nx s => some s | _ => none
section
variable {Gw : WK} {H0 : Hp} {ρ ρ' : List Slot} {K : PySem.W.Frag} {f fa fb fc : Bool} {ta tb tc te : TE} {α β γ δ S S1 R : Type} {A : R → Abs} {B : S → List Slot} {t u w : TS}
theorem db_finI {C xo dx : Addr} {m : Option (Fl S Unit)} {c : S} {O : S → List (Str × Abs)} {rest : List Slot} (h : DB ⟨C0.W, K⟩ H0 ρ t (aE K) m (fun s => .own (oIns xo C dx (O s)) :: rest)) (e : finI m = some c) : DS C0 H0 ρ t (fun r => ∃ rest, r = .own (oIns xo C dx (O c)) :: rest) aNo := by
  obtain ⟨fl, h1, h2⟩ := Option.bind_eq_some_iff.mp e
  cases fl with
  | nx s => cases h2; exact ds_imp (h _ h1) fun r ⟨s', e', q⟩ => by cases e'; exact ⟨rest, q⟩
  | rt r => cases h2
  | ex r => cases h2
end
/-! the written part by its own name (in a comprehension) -/
section
variable {X : Cx} {K : PySem.W.Frag}
theorem ix_listK (h : X.K = K) : IxR X (rIxL K) := by subst h; exact ix_list
theorem ix_tupK (h : X.K = K) : IxR X (rIxT K) := by subst h; exact ix_tup
theorem sl_listK (h : X.K = K) : SlR X (rSlL K) := by subst h; exact sl_list
theorem op_catK (h : X.K = K) : OpR X (binaryOp .Add) (rCatS K) := by subst h; exact op_catS
theorem op_eqPK (h : X.K = K) (hu : X.A.units + 64 < cLine) : OpR X (compareOp .Eq) (rEqP K) := by subst h; exact op_eqP hu
theorem op_nePK (h : X.K = K) (hu : X.A.units + 64 < cLine) : OpR X (compareOp .NotEq) (rNeP K) := by subst h; exact op_neP hu
theorem call_lenK (h : X.K = K) : CallR X (.builtin "len") (fun xs H Q => ∃ x n, xs = [x] ∧ LenV K x H n ∧ Q (.int n) H) := by subst h; exact call_len
theorem call_listK (h : X.K = K) : CallR X (.type "list") (fun xs H Q => ∃ p ys, xs = [.ref p] ∧ (SqL K H p ys ∨ SqT K H p ys) ∧ ∀ l, H l = none → Q (.ref l) (upd H l (.lst ys))) := by subst h; exact call_list_of
theorem call_isiK (h : X.K = K) : CallR X (.builtin "isinstance") (rIsi K) := by subst h; exact call_isi
theorem cr_allK (h : X.K = K) (hc : X.calm = true) : CallR X (.builtin "all") (rAll K) := by subst h; exact cr_all hc
variable {e e2 tg : Expr} {te : TE} {ta : TA} {p pos apos tpos : Pos} {elts : List Expr} {kk : Nat} {o : Expr} {to : TE}
theorem pi_listK (h : X.K = K) (hl : PE X e te) : PI X tg e (iList K te) := by subst h; exact pi_list hl
theorem pi_enumK (h : X.K = K) (hg : Gl X "enumerate") (hm : X.mg "enumerate" = none) (ha : PA X [e] ta) (hs : starEach [e] X.env = [(false, eval e X.env)] := by rfl) :
    PI X (.Tuple elts kk tpos) (.Call (.Name "enumerate" p) [e] [] pos) (iEnum K ta) := by subst h; exact pi_enum hg hm ha hs
theorem pe_fldK {f : Str} (h : X.K = K) (he : PE X e te) (hb : attributeBase e f X.env (eval e X.env) = eval e X.env) : PE X (.Attribute e f pos) (tFld K te f) := by subst h; exact pe_fld he hb
theorem pe_joinK (h : X.K = K) (ho : PE X o to) (he : PE X e te) (hs : starEach [e] X.env = [(false, eval e X.env)] := by rfl) (hbase : attributeBase o "join" X.env (eval o X.env) = eval o X.env := by rfl) (hline : (apos.endLine == pos.line) = true := by rfl) :
    PE X (.Call (.Attribute o "join" apos) [e] [] pos) (tM1 (fun x xs H Q => ∃ a p, ∃ ys : List Str, x = .str a ∧ xs = [.ref p] ∧ (SqL K H p (ys.map V.str) ∨ SqT K H p (ys.map V.str)) ∧
      (ys.map (·.length)).sum + ys.length * a.length ≤ 16777216 ∧ Q (.str (Txt.join a ys)) H) to te) := by subst h; exact pe_join ho he hs hbase hline
end
end Kj

set_option Elab.async false
set_option linter.all false
set_option maxRecDepth 100000
set_option maxHeartbeats 4000000
/-! Kj13: two data alike to the kind. -/
namespace Kj
open PySem L2
open Classical in
noncomputable def sameB (d e : PyData) : Bool := decide (d = e)
theorem sameB_true {d e : PyData} : sameB d e = true ↔ d = e := by unfold sameB; exact @decide_eq_true_iff _ (Classical.propDecidable _)
theorem sameB_false {d e : PyData} (h : d ≠ e) : sameB d e = false := by unfold sameB; exact @decide_eq_false _ (Classical.propDecidable _) h
theorem sameB_self (d : PyData) : sameB d d = true := sameB_true.mpr rfl
mutual
/-- no list or tuple within is too long -/
def small : PyData → Bool
  | .list xs => decide (xs.length ≤ 100000) && smallAll xs
  | .tuple xs => decide (xs.length ≤ 100000) && smallAll xs
  | _ => true
def smallAll : List PyData → Bool
  | [] => true
  | x :: xs => small x && smallAll xs
end
theorem smallAll_iff : ∀ xs : List PyData, smallAll xs = true ↔ ∀ x ∈ xs, small x = true
  | [] => by simp [smallAll]
  | x :: xs => by simp [smallAll, smallAll_iff xs]
theorem small_get {ds : List PyData} (h : smallAll ds = true) (i : Nat) : small (ds.getD i .none) = true := by
  rw [List.getD_eq_getElem?_getD]
  cases e : ds[i]? with
  | none => simp [small]
  | some d => exact (smallAll_iff ds).mp h d (List.mem_of_getElem? e)
def S_same (K : PySem.W.Frag) (n : Nat) : Spec := fun As R => ∃ d e : PyData, As = [aD K d, aD K e] ∧ d.plain = true ∧ e.plain = true ∧ d.depth < n ∧ e.depth < n ∧ small e = true ∧ R = aD K (.bool (sameB d e))
theorem fnOk_no {P : Program} {w : World} {K : PySem.W.Frag} {mg : Str → Option Value} {base : Heap} {k : Nat} {f : Addr} {fd : FuncData} {ps : List Str} {S : Spec} (h : ∀ As R, ¬ S As R) : FnOk P w K mg base CX0 k f fd ps (spF S) :=
  ⟨fun vs H Q E hs => by obtain ⟨As, R, z, _⟩ := hs; exact (h _ _ z).elim, fun A outer s H args us vs Q E hr he hb hv hs => by obtain ⟨As, R, z, _⟩ := hs; exact (h _ _ z).elim⟩
def isLi : PyData → Bool | .list _ => true | _ => false
def isTu : PyData → Bool | .tuple _ => true | _ => false
def isBo : PyData → Bool | .bool _ => true | _ => false
def isSt : PyData → Bool | .str _ => true | _ => false
def isIn : PyData → Bool | .bool _ => true | .int _ => true | _ => false
section
variable {d : PyData} (h : d.plain = true)
include h
theorem kit_li : kitB (tyN d) "list" = some (isLi d) := by cases d <;> first | rfl | cases h
theorem kit_tu : kitB (tyN d) "tuple" = some (isTu d) := by cases d <;> first | rfl | cases h
theorem kit_bo : kitB (tyN d) "bool" = some (isBo d) := by cases d <;> first | rfl | cases h
theorem kit_st : kitB (tyN d) "str" = some (isSt d) := by cases d <;> first | rfl | cases h
theorem kit_in : kitB (tyN d) "int" = some (isIn d) := by cases d <;> first | rfl | cases h
end
section
variable {H0 : Hp} {ρ : List Slot} {K : PySem.W.Frag} {f fa fb : Bool} {ta tb te : TE}
theorem dw_zipA {ds es : List PyData} {b : Bool} (h : DE H0 ρ ta f (aD K (if b then .list ds else .tuple ds))) (h' : DE H0 ρ tb f (aD K (if b then .list es else .tuple es))) : DW H0 ρ (RZ.iZipA K (tCons ta (tCons tb tNil))) (min ds.length es.length) f (fun i => aD K (.tuple [ds.getD i .none, es.getD i .none])) := fun σ H Hr R E k => by
  refine h σ H Hr _ E fun v H1 Hr1 x1 a1 => h' σ H1 Hr1 _ (E.ext x1) fun v2 H2 Hr2 x2 a2 => ?_
  cases b with
  | true =>
    have dz := dw_zip (H0 := H0) (ρ := ρ) (f := f) (K := K) (ta := fun _ H Q => Q v H) (tb := fun _ H Q => Q v2 H) (ds := ds) (es := es)
    rw [if_pos rfl] at a1 a2
    cases a1 with
    | @lst a xs _ hq hA =>
      cases a2 with
      | @lst b ys _ hq2 hB =>
        have hA2 := dpa_mono (hp_mono f H0 x2.r) _ _ hA
        refine ⟨a, b, xs, ys, rfl, .inl ⟨((hp_sub f).trans (x2.r.trans x2.s)).seq hq, ((hp_sub f).trans x2.s).seq hq2, k _ H2 Hr2 (x1.trans x2) fun G Gr s1 s2 s3 => ?_⟩⟩
        have q1 : SqL K G a xs := ((hp_sub f).trans (x2.r.trans (s1.trans s2))).seq hq
        have q2 : SqL K G b ys := ((hp_sub f).trans (s1.trans s2)).seq hq2
        have l1 := dpa_len hA
        have l2 := dpa_len hB
        refine ⟨fun i hi => ⟨⟨xs, ys, xs[i]'(by omega), ys[i]'(by omega), q1, q2, List.getElem?_eq_getElem _, List.getElem?_eq_getElem _⟩, ?_⟩, ⟨xs, ys, q1, q2, by omega⟩⟩
        rintro v G' ⟨T, x, y, rfl, hT, rfl, hx, hy⟩
        obtain ⟨d, e1, e2⟩ := dpa_get hA2 (hx xs q1)
        obtain ⟨e, e3, e4⟩ := dpa_get hB (hy ys q2)
        have xt : Ext G Gr (upd G T (.tup [x, y])) (upd Gr T (.tup [x, y])) := Ext.lay s2 hT
        refine ⟨_, xt, ?_⟩
        show Dp K _ (.ref T) (.tuple [ds.getD i .none, es.getD i .none])
        rw [List.getD_eq_getElem?_getD, List.getD_eq_getElem?_getD, e1, e3]
        refine .tup (SqT.of (hp_lay f s3 hT)) (.cons (dp_mono (hp_mono f H0 (s1.trans xt.r)) _ _ e2) (.cons (dp_mono (hp_mono f H0 (s1.trans xt.r)) _ _ e4) .nil))
  | false =>
    rw [if_neg Bool.false_ne_true] at a1 a2
    cases a1 with
    | @tup a xs _ hq hA =>
      cases a2 with
      | @tup b ys _ hq2 hB =>
        have hA2 := dpa_mono (hp_mono f H0 x2.r) _ _ hA
        refine ⟨a, b, xs, ys, rfl, .inr ⟨seqT ((hp_sub f).trans (x2.r.trans x2.s)) hq, seqT ((hp_sub f).trans x2.s) hq2, k _ H2 Hr2 (x1.trans x2) fun G Gr s1 s2 s3 => ?_⟩⟩
        have q1 : SqT K G a xs := seqT ((hp_sub f).trans (x2.r.trans (s1.trans s2))) hq
        have q2 : SqT K G b ys := seqT ((hp_sub f).trans (s1.trans s2)) hq2
        have l1 := dpa_len hA
        have l2 := dpa_len hB
        refine ⟨fun i hi => ⟨⟨xs, ys, xs[i]'(by omega), ys[i]'(by omega), q1, q2, List.getElem?_eq_getElem _, List.getElem?_eq_getElem _⟩, ?_⟩, ⟨xs, ys, q1, q2, by omega⟩⟩
        rintro v G' ⟨T, x, y, rfl, hT, rfl, hx, hy⟩
        obtain ⟨d, e1, e2⟩ := dpa_get hA2 (hx xs q1)
        obtain ⟨e, e3, e4⟩ := dpa_get hB (hy ys q2)
        have xt : Ext G Gr (upd G T (.tup [x, y])) (upd Gr T (.tup [x, y])) := Ext.lay s2 hT
        refine ⟨_, xt, ?_⟩
        show Dp K _ (.ref T) (.tuple [ds.getD i .none, es.getD i .none])
        rw [List.getD_eq_getElem?_getD, List.getD_eq_getElem?_getD, e1, e3]
        refine .tup (SqT.of (hp_lay f s3 hT)) (.cons (dp_mono (hp_mono f H0 (s1.trans xt.r)) _ _ e2) (.cons (dp_mono (hp_mono f H0 (s1.trans xt.r)) _ _ e4) .nil))
end
theorem all_same : ∀ ds es : List PyData, ds.length = es.length → ((List.range (min ds.length es.length)).map fun i => sameB (ds.getD i .none) (es.getD i .none)).all id = decide (sameB (.list ds) (.list es) = true) := fun ds es hl => by
  rw [Bool.eq_iff_iff, List.all_eq_true, decide_eq_true_iff, sameB_true]
  constructor
  · intro h
    congr 1
    apply List.ext_getElem hl
    intro i h1 h2
    have := h (sameB (ds.getD i .none) (es.getD i .none)) (List.mem_map.mpr ⟨i, List.mem_range.mpr (by omega), rfl⟩)
    rw [id, sameB_true, List.getD_eq_getElem?_getD, List.getD_eq_getElem?_getD, List.getElem?_eq_getElem h1, List.getElem?_eq_getElem h2] at this
    exact this
  · intro h b hb
    obtain ⟨i, _, rfl⟩ := List.mem_map.mp hb
    cases h
    exact sameB_self _
def sameM {α : Type} [Enc α] [DecidableEq α] (x y : α) : Option Bool := if small (en y) = true then some (decide (x = y)) else none
theorem en_inj {α : Type} [Enc α] {x y : α} (h : en x = en y) : x = y := by
  refine (Enc.eqv x y).mp ?_
  rw [show Enc.enc x = Enc.enc y from h]
  exact (Enc.eqv y y).mpr rfl
theorem sameB_en {α : Type} [Enc α] [DecidableEq α] (x y : α) : sameB (en x) (en y) = decide (x = y) := by
  by_cases h : x = y
  · subst h; rw [sameB_self, decide_eq_true rfl]
  · rw [sameB_false fun z => h (en_inj z), decide_eq_false h]
theorem dm_same {H0 : Hp} {ρ ρ' : List Slot} {K : PySem.W.Frag} {fa fb : Bool} {ta tb : TE} {α : Type} {Ex : XK} [Enc α] [DecidableEq α] {ma mb : Option α} (bo : Bo H0 ρ ρ') (h1 : DM H0 ρ' ta fa (aE K) ma) (h2 : DM H0 ρ' tb fb (aE K) mb) (hd : Enc.dep α < 9 := by decide) :
    DM H0 ρ (tCall (spF (S_same K 9)) [] Ex (tCons ta (tCons tb tNil))) true (aE K) (b2 sameM ma mb) := fun x e => by
  obtain ⟨a, b, e1, e2, h⟩ := b2_some e
  unfold sameM at h
  split at h
  · rename_i hs
    cases h
    refine de_call bo (da_cons (h1 _ e1) (da_cons (h2 _ e2) da_nil)) ⟨_, _, rfl, Enc.plain a, Enc.plain b, Nat.lt_of_le_of_lt (dep_en a) hd, Nat.lt_of_le_of_lt (dep_en b) hd, hs, ?_⟩
    rw [sameB_en]; rfl
  · cases h
theorem plain_get {ds : List PyData} (h : PyData.plainAll ds = true) (i : Nat) : (ds.getD i .none).plain = true := by
  induction ds generalizing i with
  | nil => simp [PyData.plain]
  | cons d ds ih =>
    simp only [PyData.plainAll, Bool.and_eq_true] at h
    cases i with
    | zero => exact h.1
    | succ i => exact ih h.2 i
theorem depth_get {ds : List PyData} (i : Nat) : (ds.getD i .none).depth ≤ PyData.depthAll ds := by
  induction ds generalizing i with
  | nil => simp [PyData.depth]
  | cons d ds ih =>
    simp only [PyData.depthAll]
    cases i with
    | zero => exact Nat.le_max_left _ _
    | succ i => exact Nat.le_trans (ih i) (Nat.le_max_right _ _)
end Kj

set_option Elab.async false
set_option linter.all false
set_option maxRecDepth 100000
set_option maxHeartbeats 4000000
namespace Kj
open PySem L2
theorem call_isiTK {X : Cx} {K : PySem.W.Frag} (h : X.K = K) : CallR X (.builtin "isinstance") (rIsiT K) := by subst h; exact call_isiT
theorem pi_zipAK {X : Cx} {K : PySem.W.Frag} {e e2 : Expr} {ta : TA} {p pos tpos : Pos} {elts : List Expr} {kk : Nat} (h : X.K = K) (hg : Gl X "zip") (hm : X.mg "zip" = none) (ha : PA X [e, e2] ta)
    (hs : starEach [e, e2] X.env = (false, eval e X.env) :: starEach [e2] X.env := by rfl) (hpl : (backTo pos (starEach [e2] X.env)).any (·.1) = false := by rfl) :
    PI X (.Tuple elts kk tpos) (.Call (.Name "zip" p) [e, e2] [] pos) (RZ.iZipA K ta) := by subst h; exact RZ.pi_zipA hg hm ha hs hpl
abbrev tIsi (K : PySem.W.Frag) (i : Nat) (T : String) : TE := tCB (rIsi K) (tCons (tVar i) (tCons (tC (.ty T)) tNil))
abbrev tLen0 (K : PySem.W.Frag) (i : Nat) : TE := tCB (fun xs H Q => ∃ x n, xs = [x] ∧ LenV K x H n ∧ Q (.int n) H) (tCons (tVar i) tNil)
abbrev tSameB (K : PySem.W.Frag) (n : Nat) : TS :=
  tSeq (tIfS (tB (tIsN (tVar 1))) (tSeq (tRet (tIsN (tVar 0))) tNext) tNext)
  (tSeq (tIfS (tB (tCB (rIsiT K) (tCons (tVar 1) (tCons (tTup (tCons (tC (.ty "list")) (tCons (tC (.ty "tuple")) tNil))) tNil))))
    (tSeq (tIfS (tOr (tTest (tOp rNe (tIsi K 0 "list") (tIsi K 1 "list"))) (tTest (tOp rNe (tIsi K 0 "tuple") (tIsi K 1 "tuple")))) (tSeq (tRet (tC (.bl false))) tNext) tNext)
    (tSeq (tRet (tAndV (tOp rEq (tLen0 K 0) (tLen0 K 1)) (tCB (rAll K) (tCons (tLc (RZ.iZipA K (tCons (tVar 0) (tCons (tVar 1) tNil))) (gTup K 2 (gCons (gName 2) (gCons (gName 3) gNil))) tYes (tCall (spF (S_same K n)) [] E0 (tCons (tVar 2) (tCons (tVar 3) tNil))) [2, 3]) tNil)))) tNext)) tNext)
  (tSeq (tIfS (tOr (tTest (tOp rNe (tIsi K 0 "bool") (tIsi K 1 "bool"))) (tTest (tOp rNe (tIsi K 0 "str") (tIsi K 1 "str")))) (tSeq (tRet (tC (.bl false))) tNext) tNext)
  (tSeq (tRet (tAndV (tOp rEq (tIsi K 0 "int") (tIsi K 1 "int")) (tOp rEq (tVar 0) (tVar 1)))) tNext)))
section
variable {H0 : Hp} {ρ : List Slot} {K : PySem.W.Frag}
theorem ds_cut {N N' : List Slot → Prop} {R : Abs} {t u : TS} (h : DS C0 H0 ρ t (fun _ => False) R) : DS C0 H0 ρ (tSeq t u) N R := ds_seq h fun _ z => z.elim
theorem de_eqSc {d e : PyData} {ta tb : TE} {fa fb : Bool} (ha : DE H0 ρ ta fa (aD K d)) (hb : DE H0 ρ tb fb (aD K e)) (hk : (∃ i j, d = .int i ∧ e = .int j) ∨ (∃ i j, d = .bool i ∧ e = .bool j) ∨ (∃ i j, d = .str i ∧ e = .str j)) : DE H0 ρ (tOp rEq ta tb) true (aD K (.bool (sameB d e))) := by
  rcases hk with ⟨i, j, rfl, rfl⟩ | ⟨i, j, rfl, rfl⟩ | ⟨i, j, rfl, rfl⟩
  · exact de_eq (de_eqI ha hb) (congrArg PyData.bool (sameB_en i j).symm)
  · exact de_eq (de_eqB ha hb) (congrArg PyData.bool (sameB_en i j).symm)
  · exact de_eq (de_eqS ha hb) (congrArg PyData.bool (sameB_en i j).symm)
theorem same_ds {n : Nat} {d e : PyData} (p1 : d.plain = true) (p2 : e.plain = true) (d1 : d.depth < n + 1) (d2 : e.depth < n + 1) (sm : small e = true) :
    DS C0 H0 ([aD K d, aD K e].map Slot.dat ++ List.replicate 2 Slot.no) (tSameB K n) (fun _ => False) (aD K (.bool (sameB d e))) := by
  have v0 : DE H0 ([aD K d, aD K e].map Slot.dat ++ List.replicate 2 Slot.no) (tVar 0) false (aD K d) := de_var rfl
  have v1 : DE H0 ([aD K d, aD K e].map Slot.dat ++ List.replicate 2 Slot.no) (tVar 1) false (aD K e) := de_var rfl
  refine ds_ifs (K := K) (a := isNn e) (dt_B (de_isN2 v1)) (fun h => ?_) (fun h => ds_skip ?_)
  · have he : e = .none := by cases e <;> first | rfl | cases h
    subst he
    refine ds_cut (N' := fun _ => False) (ds_rets (de_isN2 v0) fun v G z => ?_)
    have : isNn d = sameB d .none := by
      cases d with
      | none => exact (sameB_self _).symm
      | _ => exact (sameB_false (by intro z; cases z)).symm
    rw [← this]; exact z
  refine ds_ifs (K := K) (a := isLi e || isTu e) (dt_B (fa := true) (de_isi2 (f := true) v1 (kit_li p2) (kit_tu p2))) (fun h2 => ?_) (fun h2 => ds_skip ?_)
  · refine ds_cut (N' := fun _ => False) ?_
    have t1 : DT K H0 ([aD K d, aD K e].map Slot.dat ++ List.replicate 2 Slot.no) (tOr (tTest (tOp rNe (tIsi K 0 "list") (tIsi K 1 "list"))) (tTest (tOp rNe (tIsi K 0 "tuple") (tIsi K 1 "tuple")))) ((!decide (isLi d = isLi e)) || (!decide (isTu d = isTu e))) :=
      dt_or (dt_test (fa := true) (de_neB (fa := true) (fb := true) (de_isi v0 (kit_li p1)) (de_isi v1 (kit_li p2)))) fun _ => dt_test (fa := true) (de_neB (fa := true) (fb := true) (de_isi v0 (kit_tu p1)) (de_isi v1 (kit_tu p2)))
    refine ds_ifs t1 (fun h3 => ?_) (fun h3 => ds_skip ?_)
    · refine ds_cut (N' := fun _ => False) (ds_rets (A := aD K (.bool false)) de_bl fun v G z => ?_)
      have : sameB d e = false := sameB_false fun z => by subst z; simp at h3
      rw [this]; exact z
    · have hk : ∃ (b : Bool) (ds es : List PyData), d = (if b then .list ds else .tuple ds) ∧ e = (if b then .list es else .tuple es) := by
        cases e with
        | list es => cases d with
          | list ds => exact ⟨true, ds, es, rfl, rfl⟩
          | _ => simp [isLi, isTu] at h3
        | tuple es => cases d with
          | tuple ds => exact ⟨false, ds, es, rfl, rfl⟩
          | _ => simp [isLi, isTu] at h3
        | _ => simp [isLi, isTu] at h2
      obtain ⟨b, ds, es, rfl, rfl⟩ := hk
      have q1 : PyData.plainAll ds = true := by cases b <;> simpa [PyData.plain] using p1
      have q2 : PyData.plainAll es = true := by cases b <;> simpa [PyData.plain] using p2
      have g1 : PyData.depthAll ds < n := by cases b <;> simp [PyData.depth] at d1 <;> omega
      have g2 : PyData.depthAll es < n := by cases b <;> simp [PyData.depth] at d2 <;> omega
      have hm : es.length ≤ 100000 ∧ smallAll es = true := by cases b <;> simpa [small] using sm
      have l0 := de_len (f := true) v0 (n := ds.length) (by cases b <;> rfl)
      have l1 := de_len (f := true) v1 (n := es.length) (by cases b <;> rfl)
      have key : sameB (if b then PyData.list ds else PyData.tuple ds) (if b then PyData.list es else PyData.tuple es) = (decide ((ds.length : Int) = (es.length : Int)) && sameB (.list ds) (.list es)) := by
        rw [Bool.eq_iff_iff, Bool.and_eq_true, sameB_true, sameB_true, decide_eq_true_iff]
        cases b
        · rw [if_neg Bool.false_ne_true, if_neg Bool.false_ne_true]
          constructor
          · intro z; cases z; exact ⟨rfl, rfl⟩
          · rintro ⟨_, z⟩; cases z; rfl
        · rw [if_pos rfl, if_pos rfl]
          constructor
          · intro z; cases z; exact ⟨rfl, rfl⟩
          · rintro ⟨_, z⟩; exact z
      refine ds_rets (A := aD K (.bool (decide ((ds.length : Int) = (es.length : Int)) && sameB (.list ds) (.list es)))) (de_and (fa := true) (fb := true) (de_eqI (fa := true) (fb := true) l0 l1) fun hl => ?_) fun v G z => by rw [key]; exact z
      have hl' : ds.length = es.length := by have := of_decide_eq_true hl; omega
      have lc := de_lc2 (H0 := H0) (K := K) (te := tCall (spF (S_same K n)) [] E0 (tCons (tVar 2) (tCons (tVar 3) tNil))) (f := true) (vs := [2, 3]) (tt := tYes) (g := gTup K 2 (gCons (gName 2) (gCons (gName 3) gNil)))
        (dw_zipA (b := b) (ds := ds) (es := es) v0 v1) rfl (by omega) (fun i => some (.bool (sameB (ds.getD i .none) (es.getD i .none)))) fun k hk => ⟨_, dg_pair rfl rfl rfl rfl, dt_yes, fun dd hdd => by
          cases hdd
          exact de_call bo_refl (da_cons (fa := false) (de_var rfl) (da_cons (fa := false) (de_var rfl) da_nil)) ⟨_, _, rfl, plain_get q1 k, plain_get q2 k, Nat.lt_of_le_of_lt (depth_get k) g1, Nat.lt_of_le_of_lt (depth_get k) g2, small_get hm.2 k, rfl⟩⟩
      rw [made_all] at lc
      have hb := all_same ds es hl'
      have lc2 := de_all (f := true) (bs := (List.range (min ds.length es.length)).map fun i => sameB (ds.getD i .none) (es.getD i .none)) (te := tLc (RZ.iZipA K (tCons (tVar 0) (tCons (tVar 1) tNil))) (gTup K 2 (gCons (gName 2) (gCons (gName 3) gNil))) tYes (tCall (spF (S_same K n)) [] E0 (tCons (tVar 2) (tCons (tVar 3) tNil))) [2, 3]) (de_eq lc (by rw [List.map_map]; rfl))
      rw [hb] at lc2
      exact de_eq lc2 (by rw [Bool.decide_eq_true])
  · have t1 : DT K H0 ([aD K d, aD K e].map Slot.dat ++ List.replicate 2 Slot.no) (tOr (tTest (tOp rNe (tIsi K 0 "bool") (tIsi K 1 "bool"))) (tTest (tOp rNe (tIsi K 0 "str") (tIsi K 1 "str")))) ((!decide (isBo d = isBo e)) || (!decide (isSt d = isSt e))) :=
      dt_or (dt_test (fa := true) (de_neB (fa := true) (fb := true) (de_isi v0 (kit_bo p1)) (de_isi v1 (kit_bo p2)))) fun _ => dt_test (fa := true) (de_neB (fa := true) (fb := true) (de_isi v0 (kit_st p1)) (de_isi v1 (kit_st p2)))
    refine ds_ifs t1 (fun h3 => ?_) (fun h3 => ds_skip ?_)
    · refine ds_cut (N' := fun _ => False) (ds_rets (A := aD K (.bool false)) de_bl fun v G z => ?_)
      have : sameB d e = false := sameB_false fun z => by subst z; simp at h3
      rw [this]; exact z
    · refine ds_rets (A := aD K (.bool (decide (isIn d = isIn e) && sameB d e))) (de_and (fa := true) (fb := true) (de_eqB (fa := true) (fb := true) (de_isi v0 (kit_in p1)) (de_isi v1 (kit_in p2))) fun hl => ?_) fun v G z => ?_
      · refine de_eqSc v0 v1 ?_
        cases e with
        | none => simp [isNn] at h
        | bool j => cases d with
          | bool i => exact .inr (.inl ⟨i, j, rfl, rfl⟩)
          | _ => simp [isBo] at h3
        | int j => cases d with
          | int i => exact .inl ⟨i, j, rfl, rfl⟩
          | bool i => simp [isBo] at h3
          | _ => simp [isIn] at hl
        | str j => cases d with
          | str i => exact .inr (.inr ⟨i, j, rfl, rfl⟩)
          | _ => simp [isSt] at h3
        | list _ => simp [isLi] at h2
        | tuple _ => simp [isTu] at h2
        | dict _ => cases p2
      · have : sameB d e = (decide (isIn d = isIn e) && sameB d e) := by
          by_cases z : d = e
          · subst z; simp
          · rw [sameB_false z, Bool.and_false]
        rw [this]; exact z
end
end Kj

set_option Elab.async false
set_option linter.all false
set_option maxRecDepth 100000
set_option maxHeartbeats 4000000
/-! Kj15: sorted(set(xs)) of ints; sorted(xs). -/
namespace Kj
open PySem PySem.Spec PyProof.Rows L2
abbrev setO0 (w : World) : Obj := { cls := .type "set", dict := none, data := .set #[] 0 (.fresh 0 0 (!w.params.followText "set-order")) }
section
variable {P : Program} {w : World} {A : Around} {E : Value → Shared → Prop} {s : Shared}
theorem call_setL {l : Addr} {its : Array Value} (ks : List Int) {Q : Value → Shared → Prop} (hA : A.handled = none) (hl : s.heap.IsList l its) (hk : IntsAre its.toList ks) (hb : ks.length + 1 < scanBound)
    (hQ : ∀ (G : Heap) (tk c : Nat), SetR w G s.heap.objs.size (fun j => decide (j ∈ ks)) c → c ≤ ks.length → (∀ b o, s.heap.get? b = some o → G.get? b = some o) → Q (.ref s.heap.objs.size) { s with heap := G, toks := tk }) :
    wpAny (model P w) A (call (.type "set") [.ref l]) Q E s := by
  have hz : its.size = ks.length := by have z := IntsAre.length hk; rw [Array.length_toList] at z; exact z
  obtain ⟨cc, tll, hro⟩ := F.called_set.mro
  have k1 := F.called_set.made
  have k2 := F.called_set.sub
  refine wpAny_call (codeAny_of_tree ?_)
  show wpAny _ _ (callAny (.type "set") _) _ _ _
  refine wpAny_pure ⟨Code.quiet_builtin _ (by decide +kernel), codeAny_builtin F.entry_type_call ?_⟩
  rw [Around.under_plain (weight_type_call_type "set" [.ref l] []) rfl]
  have k3 := F.called_set.notType
  have k4 := F.called_set.canCreate
  have k5 := F.typeCall_set_1 (.ref l)
  repeat (any_goals (first | assumption | wp_step))
  refine codeAny_mono (code_set_led1 (.ref l) (E := E) (Q₁ := fun ob t => ob = .ref s.heap.objs.size ∧ t = { s with heap := s.heap.push (setO0 w) }) ⟨rfl, rfl⟩) fun r t1 hr => ?_
  cases r with
  | error e => exact hr
  | ok fl =>
    cases fl with
    | ret ob =>
      obtain ⟨rfl, rfl⟩ := hr
      have hS : (s.heap.push (setO0 w)).get? s.heap.objs.size = some (setO0 w) := Heap.get?_push_size _ rfl
      have hT : Shared.TypeIs { s with heap := s.heap.push (setO0 w) } (.ref s.heap.objs.size) "set" := ⟨_, hS, rfl⟩
      have k6 := F.called_set.init.lookup
      have k7 := F.called_set.init.bind (.ref s.heap.objs.size)
      repeat (any_goals (first | assumption | wp_step))
      refine codeAny_mono (codeAny_call_builtin (R := wants (fun r t2 => r = .none ∧ ∃ G tk c, t2 = { s with heap := G, toks := tk } ∧ SetR w G s.heap.objs.size (fun j => decide (j ∈ ks)) c ∧ c ≤ ks.length ∧
          (∀ b o, s.heap.get? b = some o → G.get? b = some o)) E) F.called_set.init.plain F.entry_set_init (check_set_init_1 hT ?_)) fun r2 t2 hr2 => ?_
      · obtain ⟨⟨c1, c2, c3, c4⟩, ho, e1, nl, e2⟩ := hl
        simp only at e1 e2
        subst e1; subst e2
        have ho' : (s.heap.push (setO0 w)).get? l = some { cls := .type "list", dict := c2, data := .seq its nl, slots := c4 } := Heap.get?_push_of_some _ ho
        have j1 := F.sub_list_set
        have j2 := F.sub_list_frozenset
        have j3 : (Value.type "list" == Value.type "dict") = false := by decide
        have hl1 : (s.heap.push (setO0 w)).IsList l its := ⟨_, ho', rfl, nl, rfl⟩
        unfold Builtin.«set.__init__» noKeywords Builtin.Frozenset.updateFrom
        generalize hPI : pyIter = PI
        wp_walk
        subst hPI
        refine wpAny_pyIter_list hl1 ?_
        refine wpAny_bind (wpAny_runValue ?_)
        have lS : l < s.heap.objs.size := Heap.lt_size ho
        have hA3 : A.in1.in1.in1.handled = none := by simp [hA]
        have zp : (s.heap.push (setO0 w)).objs.size = s.heap.objs.size + 1 := Heap.size_push ..
        have nI : l ≠ (s.heap.push (setO0 w)).objs.size := by rw [zp]; exact Nat.ne_of_lt (Nat.lt_succ_of_lt lS)
        have nS : s.heap.objs.size ∉ [(s.heap.push (setO0 w)).objs.size, l] := by
          rw [zp]; simp only [List.mem_cons, List.not_mem_nil, or_false, not_or]; exact ⟨Nat.ne_of_lt (Nat.lt_succ_self _), Nat.ne_of_gt lS⟩
        have hv : ∀ (i : Nat) (v : Value), its[i]? = some v → ∃ k t, ks[i]? = some k ∧ v = .int k t := fun i v q => by
          have hi : i < ks.length := by rw [← hz]; exact (Array.getElem?_eq_some_iff.mp q).1
          obtain ⟨t, e⟩ := IntsAre.int_at hk i v (by rw [Array.getElem?_toList]; exact q)
          refine ⟨ks[i], t, List.getElem?_eq_getElem hi, ?_⟩
          rw [e, List.getD_eq_getElem?_getD, List.getElem?_eq_getElem hi] <;> rfl
        refine set_update_ints ((Walks.list hA3 _ l nI its).toS) s.heap.objs.size nS ks hz hb hv (its.size - 0) 0 _ (by omega) (Nat.zero_le _)
          ⟨⟨_, Heap.get?_push_size _ rfl, rfl, rfl⟩, (hl1.push _)⟩ ⟨0, Nat.le_refl 0, setR_new_at (Heap.get?_push_of_some _ hS)⟩ ?_
        rintro ⟨G, g2, d2, tk2, os2⟩ c' hm hc' hS'
        have y1 : g2 = s.gens := hm.gens
        have y2 : d2 = s.drawn := hm.drawn
        have y3 : os2 = s.os := hm.os
        subst y1; subst y2; subst y3
        show wpAny _ _ _ _ _ _
        refine wpAny_pure ?_
        show wpAny _ _ (ret Value.none) _ _ _
        rw [hz] at hc'
        refine wpAny_pure ⟨rfl, G, tk2, c', rfl, hS', hc', fun b o e => ?_⟩
        have b0 : b < s.heap.objs.size := Heap.lt_size e
        refine hm.heap b o ?_ (Heap.get?_push_of_some _ (Heap.get?_push_of_some _ e))
        simp only [List.mem_cons, List.not_mem_nil, or_false, not_or, zp]
        exact ⟨Nat.ne_of_lt b0, Nat.ne_of_lt (Nat.lt_succ_of_lt b0)⟩
      · cases r2 with
        | error e => exact hr2
        | ok f2 =>
          cases f2 with
          | ret r =>
            obtain ⟨rfl, G, tk, c', rfl, hS', hc', hk'⟩ := hr2
            repeat (any_goals (first | assumption | wp_step))
            exact hQ _ _ _ hS' hc' hk'
          | _ => exact hr2.elim
    | _ => exact hr.elim
end
def tSortSet (K : PySem.W.Frag) (ta : TE) : TE := fun σ H Q => ta σ H fun x H1 => ∃ (l : Addr) (ns : List Int), x = V.ref l ∧ SqL K H1 l (ns.map V.int) ∧ ns.length < 64 ∧
  ∀ (ks : List Int) (p : Addr), ks.Pairwise (· < ·) → (∀ k : Int, k ∈ ks ↔ k ∈ ns) → H1 p = none → Q (.ref p) (upd H1 p (.lst (ks.map V.int)))
/-- the members of ns, each once, rising -/
def insI (k : Int) : List Int → List Int
  | [] => [k]
  | x :: xs => if k < x then k :: x :: xs else if k = x then x :: xs else x :: insI k xs
def srtI : List Int → List Int
  | [] => []
  | k :: ks => insI k (srtI ks)
theorem mem_insI {k j : Int} : ∀ {xs : List Int}, j ∈ insI k xs ↔ j = k ∨ j ∈ xs
  | [] => by simp [insI]
  | x :: xs => by
    unfold insI
    split
    · simp
    · split
      · rename_i h; subst h; simp
      · simp [mem_insI (xs := xs)]
        constructor
        · rintro (h | h | h) <;> simp [h]
        · rintro (h | h | h) <;> simp [h]
theorem mem_srtI {j : Int} : ∀ {xs : List Int}, j ∈ srtI xs ↔ j ∈ xs
  | [] => by simp [srtI]
  | x :: xs => by simp [srtI, mem_insI, mem_srtI (xs := xs)]
theorem insI_pw {k : Int} : ∀ {xs : List Int}, xs.Pairwise (· < ·) → (insI k xs).Pairwise (· < ·)
  | [], _ => by simp [insI]
  | x :: xs, h => by
    unfold insI
    have h' := List.pairwise_cons.mp h
    split
    · rename_i hk
      refine List.pairwise_cons.mpr ⟨fun y hy => ?_, h⟩
      rcases List.mem_cons.mp hy with e | e
      · subst e; exact hk
      · exact Int.lt_trans hk (h'.1 y e)
    · split
      · exact h
      · rename_i h1 h2
        refine List.pairwise_cons.mpr ⟨fun y hy => ?_, insI_pw h'.2⟩
        rcases mem_insI.mp hy with e | e
        · subst e; omega
        · exact h'.1 y e
theorem srtI_pw : ∀ xs : List Int, (srtI xs).Pairwise (· < ·)
  | [] => by simp [srtI]
  | x :: xs => insI_pw (srtI_pw xs)
/-- rising lists with the same members are the same -/
theorem pw_unique : ∀ {xs ys : List Int}, xs.Pairwise (· < ·) → ys.Pairwise (· < ·) → (∀ k, k ∈ xs ↔ k ∈ ys) → xs = ys
  | [], [], _, _, _ => rfl
  | [], y :: ys, _, _, h => by have := (h y).mpr (by simp); cases this
  | x :: xs, [], _, _, h => by have := (h x).mp (by simp); cases this
  | x :: xs, y :: ys, h1, h2, h => by
    have a1 := List.pairwise_cons.mp h1
    have a2 := List.pairwise_cons.mp h2
    have e : x = y := by
      rcases List.mem_cons.mp ((h x).mp (by simp)) with e | e
      · exact e
      · rcases List.mem_cons.mp ((h y).mpr (by simp)) with e' | e'
        · exact e'.symm
        · have := a1.1 y e'; have := a2.1 x e; omega
    subst e
    congr 1
    refine pw_unique a1.2 a2.2 fun k => ?_
    have hk := h k
    simp only [List.mem_cons] at hk
    constructor
    · intro z
      rcases hk.mp (.inr z) with e | e
      · subst e; have := a1.1 k z; omega
      · exact e
    · intro z
      rcases hk.mpr (.inr z) with e | e
      · subst e; have := a2.1 k z; omega
      · exact e
def sortedSetM (ns : List Int) : Option (List Int) := if ns.length < 64 then some (srtI ns) else none
theorem dpa_intsV {K : PySem.W.Frag} {H : Hp} : ∀ {bs : List Int} {xs : List V}, DpAll K H xs (bs.map PyData.int) → xs = bs.map V.int
  | [], _, .nil => rfl
  | b :: bs, _, .cons h t => by cases h; rw [dpa_intsV t]; rfl
end Kj

set_option Elab.async false
set_option linter.all false
set_option maxRecDepth 100000
set_option maxHeartbeats 4000000
/-! Kj16: results that are one's own; pop, remove; list(range), sorted. -/
namespace Kj
open PySem L2
theorem rm_mono {H H' : Hp} (p : Addr) (s : Same H H') : Same (rm H p) (rm H' p) := fun a o h => by
  obtain ⟨h1, h2⟩ := rm_some h
  rw [rm_ne h2]; exact s _ _ h1
/-- a list of its own, all of it new -/
def aO (B : AbsO) : Abs := ⟨fun v H => ∃ p o, v = .ref p ∧ H p = some o ∧ B.p p o (rm H p), fun v H H' s ⟨p, o, e, h, b⟩ => ⟨p, o, e, s _ _ h, B.mono _ _ _ _ (rm_mono p s) b⟩⟩
abbrev aEo {α : Type} [Enc α] (K : PySem.W.Frag) (x : List α) : Abs := aO (oE K x)
theorem aEo_aE {α : Type} [Enc α] {K : PySem.W.Frag} {x : List α} {v : V} {H : Hp} (h : (aEo K x).p v H) : (aE K x).p v H := by
  obtain ⟨p, o, rfl, h1, xs, rfl, h2⟩ := h
  exact .lst (SqL.of h1) (dpa_mono (fun a o h => (rm_some h).1) _ _ h2)
def DMo (K : PySem.W.Frag) (H0 : Hp) (ρ : List Slot) (t : TE) {α : Type} [Enc α] (m : Option (List α)) : Prop := ∀ xs, m = some xs → ∀ (σ : St) (H Hr : Hp) (Q : VK), EnvOk H0 σ ρ H Hr →
  (∀ p o H1 Hr1, Ext H Hr H1 Hr1 → H1 p = none → (oE K xs).p p o (mns Hr1 H0) → Q (.ref p) (upd H1 p o)) → t σ H Q
section
variable {Gw : WK} {H0 : Hp} {ρ ρ' : List Slot} {K : PySem.W.Frag} {f fa fb fc g : Bool} {ta tb tc te : TE} {α β γ δ S S1 R : Type} {A : R → Abs} {B : S → List Slot} {t u w : TS}
theorem dm_own [Enc α] {m : Option (List α)} (h : DMo K H0 ρ te m) : DM H0 ρ te true (aEo K) m := fun xs e σ H Hr Q E k => h xs e σ H Hr Q E fun p o H1 Hr1 x hn b => by
  have xt : Ext H1 Hr1 (upd H1 p o) (upd Hr1 p o) := Ext.lay x.s hn
  refine k (.ref p) _ _ (x.trans xt) ⟨p, o, rfl, hp_lay true (E.ext x).base hn, (oE K xs).mono _ _ _ _ (fun a u q => ?_) b⟩
  have q' := mns_some.mp q
  have ne : a ≠ p := fun z => by subst z; rw [x.s.free hn] at q'; cases q'.2
  rw [rm_ne ne]
  exact mns_some.mpr ⟨q'.1, xt.r _ _ q'.2⟩
theorem db_setO [Enc α] {i : Nat} {m : Option (List α)} {k : List α → Option (Fl S R)} (h : DMo K H0 ρ te m) (hk : ∀ x : List α, DB Gw H0 (ρ.set i (.own (oE K x))) u A (k x) B) (hi : Nat.blt i ρ.length = true := by rfl) : DB Gw H0 ρ (tSeq (tAsg te (gName i)) u) A (b1 k m) B := fun fl e => by
  obtain ⟨xs, h1, h2⟩ := b1_some e
  refine ds_sq (ρ1 := ρ.set i (.own (oE K xs))) (fun σ H Hr D E kn kr kx => ?_) (hk xs fl h2)
  exact h xs h1 σ H Hr _ E fun p o H1 Hr1 x hn b => kn _ _ _ Hr1 rfl ((E.ext x).lay (lt_of hi) hn b) x.r
theorem dmo_lst [Enc α] {t : TA} {m : Option (List α)} (h : DAm H0 K ρ t true m) : DMo K H0 ρ (tLst t) (b1 shortM m) := fun xs e σ H Hr Q E k => by
  obtain ⟨ys, h1, h2⟩ := b1_some e
  unfold shortM at h2
  split at h2
  · rename_i hl
    cases h2
    refine h _ h1 σ H Hr _ E fun vs H1 Hr1 x1 a1 => ⟨?_, fun p hn => k p _ H1 Hr1 x1 hn ⟨vs, rfl, a1⟩⟩
    have := dpa_len a1
    rw [List.length_map] at this
    rw [sizeLine_eq]; omega
  · cases h2
theorem dmo_slF [Enc α] [Flt α] {m : Option (List α)} {tl th : TO} {ml mh : Option (Option Int)} (h : DM H0 ρ te fa (aE K) m) (hl : DOm K H0 ρ tl ml) (hh : DOm K H0 ρ th mh) : DMo K H0 ρ (tSl (rSlL K) te tl th) (b3 cutM m ml mh) := fun x e σ H Hr Q E k => by
  obtain ⟨xs, lo, hi, h1, h2, h3, h'⟩ := b3_some e
  cases h'
  refine h _ h1 σ H Hr _ E fun v H1 Hr1 x1 a1 => hl _ h2 σ H1 Hr1 _ (E.ext x1) fun H2 Hr2 x2 => hh _ h3 σ H2 Hr2 _ ((E.ext x1).ext x2) fun H3 Hr3 x3 => ?_
  cases a1 with
  | @lst a vs _ hs hA =>
    have x23 := x2.trans x3
    refine ⟨_, _, rfl, ((hp_sub fa).trans (x23.r.trans x23.s)).seq hs, fun p hn => k p _ H3 Hr3 (x1.trans x23) hn ⟨_, rfl, ?_⟩⟩
    have hA' := dpa_sc (H' := mns Hr3 H0) (all_flt xs) hA
    have e' : (cutD xs lo hi).map en = ((xs.map en).drop (HT.sIx vs.length 0 lo)).take (HT.sIx vs.length vs.length hi - HT.sIx vs.length 0 lo) := by
      rw [← cutD_map]; unfold cutD; rw [dpa_len hA]
    rw [e']
    exact dpa_take _ (dpa_drop _ hA')
def rngL (j : Int) : Option (List Int) := if 0 ≤ j ∧ j ≤ 16777216 then some ((List.range j.toNat).map fun n : Nat => (n : Int)) else none
/-! sorted, of ints -/
def insL (k : Int) : List Int → List Int
  | [] => [k]
  | x :: xs => if k ≤ x then k :: x :: xs else x :: insL k xs
def sortL : List Int → List Int
  | [] => []
  | k :: ks => insL k (sortL ks)
def sortedM (ns : List Int) : Option (List Int) := some (sortL ns)
/-! an optional thing, where it is there -/
/-! own results of calls -/
variable {Ex : XK} {Ax : α → Abs} {Bx : β → Abs} {Dx : δ → Abs} {ma : Option α} {mb : Option β} {md : Option δ}
/-! xs.pop(), xs.append(ys.pop(i)), xs.remove(x) -/
def popM {α β : Type} (xs : List α) (k : α → List α → Option β) : Option β := match xs.getLast? with | some x => k x xs.dropLast | none => none
theorem tyL {H : Hp} {p : Addr} {xs : List V} (h : H p = some (.lst xs)) : tyV K "list" (.ref p) H := .inl ⟨rfl, _, SqL.of h⟩
/-- the item at i and the rest -/
def popAtM {α β : Type} (xs : List α) (i : Int) (k : α → List α → Option β) : Option β := if 0 ≤ i ∧ i < xs.length ∧ i < 1000000000 then (match xs[i.toNat]? with | some x => k x (xs.eraseIdx i.toNat) | none => none) else none
end
end Kj

set_option Elab.async false
set_option linter.all false
set_option maxRecDepth 100000
set_option maxHeartbeats 4000000
/-! Kj17: more of one's own lists. -/
namespace Kj
open PySem L2
def remM {β : Type} (xs : List Int) (x : Int) (k : List Int → Option β) : Option β := if x ∈ xs then k (xs.erase x) else none
section
variable {Gw : WK} {H0 : Hp} {ρ ρ' : List Slot} {K : PySem.W.Frag} {f fa fb fc g : Bool} {ta tb tc te : TE} {α β γ δ S S1 R : Type} {A : R → Abs} {B : S → List Slot} {t u w : TS}
end
end Kj
namespace Kj
open PySem L2
section
variable {Gw : WK} {H0 : Hp} {ρ ρ' : List Slot} {K : PySem.W.Frag} {f fa fb fc g : Bool} {ta tb tc te : TE} {α β γ δ S S1 R : Type} {Ex : XK} {Ax : α → Abs} {Bx : β → Abs} {Dx : δ → Abs} {ma : Option α} {mb : Option β} {md : Option δ} {Cl : Addr} {m : Str} {O : α → List (Str × Abs)}
end
end Kj

set_option Elab.async false
set_option linter.all false
set_option maxRecDepth 100000
set_option maxHeartbeats 4000000
/-! Kj18: dicts of texts and numbers, one's own. -/
namespace Kj
open PySem L2
abbrev Ct := List (P2 Str Int)
def ent (p : P2 Str Int) : Key × V := (Sum.inr p.a, V.int p.b)
def cget (d : Ct) (k : Str) : Option Int := (d.find? fun p => decide (p.a = k)).map P2.b
def cput (d : Ct) (k : Str) (v : Int) : Ct := if (d.any fun p => decide (p.a = k)) = true then d.map (fun p => if p.a = k then ⟨p.a, v⟩ else p) else d ++ [⟨k, v⟩]
def oC (d : Ct) : AbsO := ⟨fun _ o _ => o = .dK (d.map ent), fun _ _ _ _ _ h => h⟩
def aFz (od : Obj) (d : Ct) : Abs := ⟨fun v H => ∃ p, v = .ref p ∧ H p = some (.frz od (.dK (d.map ent))), fun v H H' s ⟨p, e, h⟩ => ⟨p, e, s _ _ h⟩⟩
def getC (d : Ct) (k : Str) (z : Int) : Option Int := some ((cget d k).getD z)
def putC {β : Type} (d : Ct) (k : Str) (v : Int) (c : Ct → Option β) : Option β := if d.length < 100000 then c (cput d k v) else none
section
variable {Gw : WK} {H0 : Hp} {ρ ρ' : List Slot} {K : PySem.W.Frag} {f fa fb fc g : Bool} {ta tb tc te : TE} {α β γ δ S S1 R : Type} {A : R → Abs} {B : S → List Slot} {t u w : TS}
/-! under a lock -/
mutual
theorem dp_rmfz {H : Hp} {p : Addr} {od : Obj} {kvs : List (Key × V)} (h : H p = some (.frz od (.dK kvs))) : ∀ (d : PyData) (v : V), Dp K H v d → Dp K (rm H p) v d
  | .none, _, q => by cases q; exact .non
  | .bool b, _, q => by cases q; exact .bl b
  | .int i, _, q => by cases q; exact .int i
  | .str x, _, q => by cases q; exact .str x
  | .list ds, _, q => by
    cases q with
    | @lst a xs _ hs ha =>
      refine .lst ?_ (dpa_rmfz h ds _ ha)
      rcases hs with (hs | ⟨o, hs⟩) | hs
      · exact .inl (.inl (by rw [rm_ne (fun z => by rw [z, h] at hs; cases hs)]; exact hs))
      · exact .inl (.inr ⟨o, by rw [rm_ne (fun z => by rw [z, h] at hs; cases hs)]; exact hs⟩)
      · exact .inr hs
  | .tuple ds, _, q => by
    cases q with
    | @tup a xs _ hs ha =>
      refine .tup ?_ (dpa_rmfz h ds _ ha)
      rcases hs with (hs | ⟨o, hs⟩) | hs
      · exact .inl (.inl (by rw [rm_ne (fun z => by rw [z, h] at hs; cases hs)]; exact hs))
      · exact .inl (.inr ⟨o, by rw [rm_ne (fun z => by rw [z, h] at hs; cases hs)]; exact hs⟩)
      · exact .inr hs
  | .dict _, _, q => by cases q
theorem dpa_rmfz {H : Hp} {p : Addr} {od : Obj} {kvs : List (Key × V)} (h : H p = some (.frz od (.dK kvs))) : ∀ (ds : List PyData) (vs : List V), DpAll K H vs ds → DpAll K (rm H p) vs ds
  | [], _, q => by cases q; exact .nil
  | d :: ds, _, q => by
    cases q with
    | cons h1 h2 => exact .cons (dp_rmfz h d _ h1) (dpa_rmfz h ds _ h2)
end
end
end Kj

set_option Elab.async false
set_option linter.all false
set_option maxRecDepth 100000
set_option maxHeartbeats 4000000
namespace Kj
open PySem L2
structure BookT where
  lines : List (List Str)
  deriving DecidableEq
abbrev cBook (K : PySem.W.Frag) : Addr := He.ga K "Book"
abbrev oBook (K : PySem.W.Frag) (b : BookT) : List (Str × Abs) := [("lines", aE K b.lines)]
abbrev aBook (K : PySem.W.Frag) (b : BookT) : Abs := aIns (cBook K) (oBook K b)
def f_law_numbers (v_law_script : (List Int)) (v_law_many : Int) : Option (List Int) := finF (S := Unit) (R := (List Int)) 
  (b1 (fun v_law_row => (b1 (fun v_law_seed => (bindF (S1 := (List Int) × Int) (b1 (fun xs => forF (fun x2 s1 => (b1 (fun v_law_seed => (b1 (fun v_law_rest => (bindF (S1 := (List Int)) (iteM (b2 ltI (some v_law_rest) (some (0 : Int)))
    (b1 (fun x => appM s1.1 x fun v_law_row => (some (Fl.nx v_law_row))) (b2 modI (some x2) (some (9967 : Int))))
    (some (Fl.nx s1.1))) fun s8 => (bindF (S1 := (List Int) × Int) (b1 (fun xs => forF (fun x10 s9 => (bindF (S1 := (List Int) × Int) (iteM (b2 gtI (some s9.2) (some (0 : Int)))
    (b1 (fun x => appM s9.1 x fun v_law_row => (b1 (fun v_law_rest => (some (Fl.nx (v_law_row, v_law_rest))))
    (b2 divI (some s9.2) (some (1013 : Int))))) (b2 modI (some s9.2) (some (1013 : Int))))
    (some (Fl.nx (s9.1, s9.2)))) fun s12 => (some (Fl.nx (s12.1, s12.2))))) xs (s8, v_law_rest)) (b1 rngM (some (60 : Int)))) fun s9 => (some (Fl.nx (s9.1, v_law_seed))))))
    (b2 subI (some x2) (b2 powI (some (10 : Int)) (some (18 : Int))))))
    (b2 modI (b2 addI (b2 addI (b2 mulI (some s1.2) (some (40014 : Int))) (b2 modI (some x2) (some (999983 : Int)))) (some (17 : Int))) (some (2147483563 : Int))))) xs (v_law_row, v_law_seed)) (b3 cutM (some v_law_script) noneM (someM (some (63 : Int))))) fun s1 => (bindF (S1 := (List Int) × Int) (whileF (fun s13 => (b2 ltI (b1 lenL (some s13.1)) (some v_law_many))) (fun s13 => (b1 (fun v_law_seed => (b1 (fun x => appM s13.1 x fun v_law_row => (some (Fl.nx (v_law_row, v_law_seed)))) (b2 modI (b2 divI (some v_law_seed) (some (1019 : Int))) (some (9967 : Int)))))
    (b2 modI (b2 addI (b2 addI (b2 addI (b2 mulI (some s13.2) (some s13.2)) (b2 mulI (some (52774 : Int)) (some s13.2))) (b2 mulI (some (11 : Int)) (b1 lenL (some s13.1)))) (some (3 : Int))) (some (2147483629 : Int))))) fuelN (s1.1, s1.2)) fun s13 => (b1 (fun r => some (Fl.rt r)) (b3 cutM (some s13.1) noneM (someM (some v_law_many)))))))
    (some (41 : Int)))) (some ([] : (List Int))))
def f_law_sound (v_law_number : Int) : Option Str := finF (S := Unit) (R := Str) 
  (b1 (fun v_law_letters => (b1 (fun r => some (Fl.rt r)) (b2 joinM (some ("" : Str)) (b1 (lcM fun x1 => lcE (some true) (b2 ixS (some v_law_letters) (b2 modI (b2 addI (b2 divI (some v_law_number) (some (3 : Int))) (b2 mulI (some x1) (b2 divI (some v_law_number) (some (79 : Int))))) (some (26 : Int))))) (b1 rngM (b2 addI (some (1 : Int)) (b2 modI (some v_law_number) (some (3 : Int)))))))))
    (some ("abcdefghijklmnopqrstuvwxyz" : Str)))
def f_law_pool (v_law_d : (List Int)) : Option (List Str) := finF (S := Unit) (R := (List Str)) 
  (bindF (S1 := Unit) (iteM (b2 eqM (b2 modI (b2 atI (some v_law_d) (some (0 : Int))) (some (3 : Int))) (some (0 : Int)))
    (b1 (fun r => some (Fl.rt r)) (b1 shortM (b2 consM (some ("a" : Str)) (b2 consM (some ("b" : Str)) (b2 consM (some ("ab" : Str)) (b2 consM (some ("ba" : Str)) (b2 consM (some ("aa" : Str)) (b2 consM (some ("bab" : Str)) (some ([] : List Str))))))))))
    (some (Fl.nx ()))) fun s1 => (bindF (S1 := Unit) (iteM (b2 eqM (b2 modI (b2 atI (some v_law_d) (some (0 : Int))) (some (3 : Int))) (some (1 : Int)))
    (b1 (fun r => some (Fl.rt r)) (b1 shortM (b2 consM (some ("ka" : Str)) (b2 consM (some ("ki" : Str)) (b2 consM (some ("k" : Str)) (b2 consM (some ("i" : Str)) (b2 consM (some ("kik" : Str)) (b2 consM (some ("ma" : Str)) (some ([] : List Str))))))))))
    (some (Fl.nx ()))) fun s2 => (b1 (fun r => some (Fl.rt r)) (b1 (lcM fun x3 => lcE (some true) (b1 f_law_sound (b2 atI (some v_law_d) (some x3)))) (b2 rng2M (some (1 : Int)) (some (7 : Int)))))))
def f_law_alike (v_law_one : (List Str)) (v_law_other : (List Str)) : Option Bool := finF (S := Unit) (R := Bool) 
  (b1 (fun v_law_size => (b1 (fun r => some (Fl.rt r)) (b2 eqM (b3 cutM (some v_law_one) noneM (someM (some v_law_size))) (b3 cutM (some v_law_other) noneM (someM (some v_law_size))))))
    (b2 minI (b1 lenL (some v_law_one)) (b1 lenL (some v_law_other))))
def f_law_verse (v_law_verses : (List (List Str))) (v_law_pool_here : (List Str)) (v_law_d : (List Int)) : Option (List Str) := finF (S := Unit) (R := (List Str)) 
  (b1 (fun v_law_line => (bindF (S1 := (List Str)) (iteM (andM (b2 neM (some v_law_verses) (b1 shortM (some ([] : List (List Str))))) (b2 gtI (b2 modI (b2 atI (some v_law_d) (some (0 : Int))) (some (4 : Int))) (some (0 : Int))))
    (b1 (fun v_law_ahead => (b1 (fun v_law_line => (some (Fl.nx v_law_line)))
    (b3 cutM (some v_law_ahead) noneM (someM (b2 modI (b2 divI (b2 atI (some v_law_d) (some (0 : Int))) (some (4 : Int))) (b2 addI (b1 lenL (some v_law_ahead)) (some (1 : Int))))))))
    (b2 atI (some v_law_verses) (b2 modI (b2 atI (some v_law_d) (some (1 : Int))) (b1 lenL (some v_law_verses)))))
    (some (Fl.nx v_law_line))) fun s1 => (b1 (fun v_law_line => (b1 (fun r => some (Fl.rt r)) (b3 cutM (some v_law_line) noneM (someM (some (8 : Int))))))
    (b2 catM (some s1) (b1 (lcM fun x2 => lcE (some true) (b2 atI (some v_law_pool_here) (b2 modI (b2 atI (some v_law_d) (b2 addI (some (3 : Int)) (some x2))) (b1 lenL (some v_law_pool_here))))) (b1 rngM (b2 addI (some (1 : Int)) (b2 modI (b2 atI (some v_law_d) (some (2 : Int))) (some (3 : Int))))))))))
    (b1 shortM (some ([] : List Str))))
def f_law_wide (v_law_d : (List Int)) (v_law_size : Int) : Option (List (List Str)) := finF (S := Unit) (R := (List (List Str))) 
  (b1 (fun v_law_verses => (bindF (S1 := (List (List Str))) (b1 (fun xs => forF (fun x2 s1 => (b1 (fun v_law_at => (b1 (fun v_law_line => (b1 (fun x => appM s1 x fun v_law_verses => (some (Fl.nx v_law_verses))) (b2 catM (some v_law_line) (b3 cutM (b1 shortM (b2 consM (some ("ma" : Str)) (b2 consM (some ("a" : Str)) (b2 consM (some ("bab" : Str)) (b2 consM (some ("a" : Str)) (b2 consM (some ("b" : Str)) (some ([] : List Str)))))))) noneM (someM (b2 modI (b2 addI (b2 atI (some v_law_d) (some (2 : Int))) (b2 mulI (some x2) (b2 atI (some v_law_d) (some (3 : Int))))) (some (6 : Int))))))))
    (b1 shortM (b2 consM (b2 atI (b1 shortM (b2 consM (some ("a" : Str)) (b2 consM (some ("b" : Str)) (b2 consM (some ("ab" : Str)) (b2 consM (some ("ba" : Str)) (some ([] : List Str))))))) (b2 divI (some v_law_at) (some (16 : Int)))) (b2 consM (b2 atI (b1 shortM (b2 consM (some ("a" : Str)) (b2 consM (some ("aa" : Str)) (b2 consM (some ("ba" : Str)) (b2 consM (some ("b" : Str)) (some ([] : List Str))))))) (b2 modI (b2 divI (some v_law_at) (some (4 : Int))) (some (4 : Int)))) (b2 consM (b2 atI (b1 shortM (b2 consM (some ("ka" : Str)) (b2 consM (some ("k" : Str)) (b2 consM (some ("a" : Str)) (b2 consM (some ("ki" : Str)) (some ([] : List Str))))))) (b2 modI (some v_law_at) (some (4 : Int)))) (some ([] : List Str))))))))
    (b2 modI (b2 addI (b2 atI (some v_law_d) (some (0 : Int))) (b2 mulI (some x2) (b2 addI (some (1 : Int)) (b2 mulI (some (2 : Int)) (b2 modI (b2 atI (some v_law_d) (some (1 : Int))) (some (32 : Int))))))) (some (64 : Int))))) xs v_law_verses) (b1 rngM (some v_law_size))) fun s1 => (b1 (fun r => some (Fl.rt r)) (some s1)))) (some ([] : (List (List Str)))))
def f_law_book (v_law_d : (List Int)) (v_law_most : Int) : Option (List (List Str)) := finF (S := Unit) (R := (List (List Str))) 
  (bindF (S1 := Unit) (iteM (b2 eqM (b2 modI (b2 divI (b2 atI (some v_law_d) (some (8 : Int))) (some (5 : Int))) (some (5 : Int))) (some (4 : Int)))
    (b1 (fun r => some (Fl.rt r)) (b2 f_law_wide (b3 cutM (some v_law_d) (someM (some (1 : Int))) (someM (some (5 : Int)))) (b2 addI (some (1 : Int)) (b2 modI (b2 atI (some v_law_d) (some (0 : Int))) (some v_law_most)))))
    (some (Fl.nx ()))) fun s1 => (b1 (fun v_law_pool_here => (b1 (fun v_law_verses => (bindF (S1 := (List (List Str))) (b1 (fun xs => forF (fun x3 s2 => (b1 (fun v_law_line => (bindF (S1 := (List (List Str))) (iteM (b1 allM (b1 (lcM fun x6 => lcE (some true) (notM (b2 f_law_alike (some v_law_line) (some x6)))) (some s2)))
    (b1 (fun x => appM s2 x fun v_law_verses => (some (Fl.nx v_law_verses))) (some v_law_line))
    (some (Fl.nx s2))) fun s7 => (some (Fl.nx s7))))
    (b3 f_law_verse (some s2) (some v_law_pool_here) (b3 cutM (some v_law_d) (someM (b2 addI (some (9 : Int)) (b2 mulI (some (6 : Int)) (some x3)))) (someM (b2 addI (some (15 : Int)) (b2 mulI (some (6 : Int)) (some x3)))))))) xs v_law_verses) (b1 rngM (b2 addI (some (1 : Int)) (b2 modI (b2 atI (some v_law_d) (some (0 : Int))) (some v_law_most))))) fun s2 => (b1 (fun r => some (Fl.rt r)) (some s2)))) (some ([] : (List (List Str))))))
    (b3 cutM (b1 f_law_pool (b3 cutM (some v_law_d) (someM (some (1 : Int))) (someM (some (8 : Int))))) noneM (someM (b2 addI (some (2 : Int)) (b2 modI (b2 atI (some v_law_d) (some (8 : Int))) (some (5 : Int))))))))
def f_law_copy (v_law_rows : (List (List Str))) : Option (List (List Str)) := finF (S := Unit) (R := (List (List Str))) 
  (b1 (fun r => some (Fl.rt r)) (b1 (lcM fun x1 => lcE (some true) (b1 listM (some x1))) (some v_law_rows)))
def f_is_syllable (v_text : Str) : Option Bool := finF (S := Unit) (R := Bool) 
  (b1 (fun r => some (Fl.rt r)) (andM (chM leI leI (some (1 : Int)) (b1 lenS (some v_text)) (some (3 : Int))) (b1 allM (b1 (lcM fun x1 => lcE (some true) (chM leS leS (some ("a" : Str)) (some x1) (some ("z" : Str)))) (b1 strM (some v_text))))))
def f_is_verse (v_syllables : (List Str)) : Option Bool := finF (S := Unit) (R := Bool) 
  (b1 (fun r => some (Fl.rt r)) (andM (chM leI leI (some (1 : Int)) (b1 lenL (some v_syllables)) (some (8 : Int))) (b1 allM (b1 (lcM fun x1 => lcE (some true) (b1 f_is_syllable (some x1))) (some v_syllables)))))
def f_begins (v_one : (List Str)) (v_other : (List Str)) : Option Bool := finF (S := Unit) (R := Bool) 
  (b1 (fun r => some (Fl.rt r)) (b2 eqM (b3 cutM (some v_other) noneM (someM (b1 lenL (some v_one)))) (some v_one)))
def f_check_rows (v_rows : (List (List Str))) : Option Unit := finN (S := Unit) 
  (bindF (S1 := Unit) (iteM (notM (chM leI leI (some (1 : Int)) (b1 lenL (some v_rows)) (some (40 : Int))))
    none
    (some (Fl.nx ()))) fun s1 => (bindF (S1 := Unit) (b1 (fun xs => forF (fun x3 s2 => (bindF (S1 := Unit) (iteM (notM (b1 f_is_verse (some x3.b)))
    none
    (some (Fl.nx ()))) fun s5 => (some (Fl.nx ())))) xs ()) (b1 enumM (some v_rows))) fun s2 => (bindF (S1 := Unit) (b1 (fun xs => forF (fun x7 s6 => (bindF (S1 := Unit) (b1 (fun xs => forF (fun x13 s12 => (bindF (S1 := Unit) (iteM (orM (b2 f_begins (b2 atI (some v_rows) (some x13)) (b2 atI (some v_rows) (some x7))) (b2 f_begins (b2 atI (some v_rows) (some x7)) (b2 atI (some v_rows) (some x13))))
    none
    (some (Fl.nx ()))) fun s15 => (some (Fl.nx ())))) xs ()) (b1 rngM (some x7))) fun s12 => (some (Fl.nx ())))) xs ()) (b1 rngM (b1 lenL (some v_rows)))) fun s6 => (some (Fl.nx ())))))
def f_Book___init__ (v_verses : (List (List Str))) : Option BookT := finI (R := Unit)
  (b1 (fun _ => (b1 (fun y => some (Fl.nx (⟨y⟩ : BookT))) (b1 (lcM fun x1 => lcE (some true) (b1 listM (some x1))) (some v_verses)))) (b1 f_check_rows (some v_verses)))
def f_Book_many (v_self : BookT) : Option Int := finF (S := Unit) (R := Int) 
  (b1 (fun r => some (Fl.rt r)) (b1 lenL ((some v_self).map BookT.lines)))
def f_check_verse (v_book : BookT) (v_number : Int) : Option Unit := finN (S := Unit) 
  (bindF (S1 := Unit) (iteM (notM (chM leI ltI (some (0 : Int)) (some v_number) (b1 f_Book_many (some v_book) )))
    none
    (some (Fl.nx ()))) fun s1 => (some (Fl.nx ())))
def f_Book_verse (v_self : BookT) (v_number : Int) : Option (List Str) := finF (S := Unit) (R := (List Str)) 
  (b1 (fun _ => (b1 (fun r => some (Fl.rt r)) (b1 listM (b2 atI ((some v_self).map BookT.lines) (some v_number))))) (b2 f_check_verse (some v_self) (some v_number)))
def f_law_unread (v_law_many : Int) (v_law_d : (List Int)) : Option (List Int) := finF (S := Unit) (R := (List Int)) 
  (b1 (fun v_law_row => (bindF (S1 := Unit) (iteM (b2 eqM (b2 modI (b2 divI (b2 atI (some v_law_d) (some (0 : Int))) (some (4 : Int))) (some (3 : Int))) (some (1 : Int)))
    (b1 (fun r => some (Fl.rt r)) (b1 revM (some v_law_row)))
    (some (Fl.nx ()))) fun s2 => (bindF (S1 := Unit) (iteM (b2 eqM (b2 modI (b2 divI (b2 atI (some v_law_d) (some (0 : Int))) (some (4 : Int))) (some (3 : Int))) (some (2 : Int)))
    (b1 (fun v_law_at => (b1 (fun r => some (Fl.rt r)) (b2 catM (b2 catM (b3 cutM (some v_law_row) (someM (some v_law_at)) noneM) (b3 cutM (some v_law_row) noneM (someM (some v_law_at)))) (b3 cutM (some v_law_row) noneM (someM (some (2 : Int)))))))
    (b2 modI (b2 divI (b2 atI (some v_law_d) (some (0 : Int))) (some (12 : Int))) (b2 addI (b1 lenL (some v_law_row)) (some (1 : Int)))))
    (some (Fl.nx ()))) fun s3 => (b1 (fun r => some (Fl.rt r)) (some v_law_row)))))
    (b1 (lcM fun x1 => lcE (orM (b2 eqM (b2 modI (b2 atI (some v_law_d) (some (0 : Int))) (some (4 : Int))) (some (0 : Int))) (b2 gtI (b2 modI (b2 atI (some v_law_d) (b2 addI (some (1 : Int)) (some x1))) (some (3 : Int))) (some (0 : Int)))) (some x1)) (b1 rngM (some v_law_many))))
def f_rising (v_book : BookT) (v_numbers : (List Int)) : Option (List Int) := finF (S := Unit) (R := (List Int)) 
  (bindF (S1 := Unit) (b1 (fun xs => forF (fun x2 s1 => (b1 (fun _ => (some (Fl.nx ()))) (b2 f_check_verse (some v_book) (some x2)))) xs ()) (some v_numbers)) fun s1 => (b1 (fun r => some (Fl.rt r)) (b1 sortedSetM (some v_numbers))))
def f_meeting (v_book : BookT) (v_unread : (List Int)) (v_heard : (List Str)) : Option (List Int) := finF (S := Unit) (R := (List Int)) 
  (b1 (fun r => some (Fl.rt r)) (b1 (lcM fun x1 => lcE (b2 f_begins (some v_heard) (b2 f_Book_verse (some v_book) (some x1))) (some x1)) (b2 f_rising (some v_book) (some v_unread))))
def f_shared (v_book : BookT) (v_one : Int) (v_other : Int) : Option Int := finF (S := Unit) (R := Int) 
  (b1 (fun v_size => (bindF (S1 := Int) (b1 (fun xs => forF (fun x2 s1 => (bindF (S1 := Unit) (iteM (b2 neM (some x2.a) (some x2.b))
    (b1 (fun r => some (Fl.rt r)) (some s1))
    (some (Fl.nx ()))) fun s4 => (b1 (fun y => (fun v_size => (some (Fl.nx v_size))) ((fun i j => i + j) s1 y)) (some (1 : Int))))) xs v_size) (b2 zipM (b2 f_Book_verse (some v_book) (some v_one)) (b2 f_Book_verse (some v_book) (some v_other)))) fun s1 => (b1 (fun r => some (Fl.rt r)) (some s1))))
    (some (0 : Int)))
def f_rivals (v_book : BookT) (v_unread : (List Int)) (v_verse : Int) (v_size : Int) : Option (List Int) := finF (S := Unit) (R := (List Int)) 
  (b1 (fun _ => (b1 (fun v_others => (b1 (fun r => some (Fl.rt r)) (b1 (lcM fun x2 => lcE (b2 geI (b3 f_shared (some v_book) (some v_verse) (some x2)) (some v_size)) (some x2)) (some v_others))))
    (b1 (lcM fun x1 => lcE (b2 neM (some x1) (some v_verse)) (some x1)) (b2 f_rising (some v_book) (some v_unread))))) (b2 f_check_verse (some v_book) (some v_verse)))
def f_deciding (v_book : BookT) (v_unread : (List Int)) (v_verse : Int) : Option (List Str) := finF (S := Unit) (R := (List Str)) 
  (b1 (fun v_size => (bindF (S1 := Int) (whileF (fun s1 => ((b4 f_rivals (some v_book) (some v_unread) (some v_verse) (some s1)).map fun xs => !xs.isEmpty)) (fun s1 => (b1 (fun y => (fun v_size => (some (Fl.nx v_size))) ((fun i j => i + j) s1 y)) (some (1 : Int)))) fuelN v_size) fun s1 => (b1 (fun r => some (Fl.rt r)) (b3 cutM (b2 f_Book_verse (some v_book) (some v_verse)) noneM (someM (some s1))))))
    (some (0 : Int)))
end Kj

set_option Elab.async false
set_option linter.all false
set_option maxRecDepth 100000
set_option maxHeartbeats 4000000
namespace Kj
open PySem L2
def f_hurdles (v_book : BookT) (v_unread : (List Int)) (v_verse : Int) : Option (List (List Int)) := finF (S := Unit) (R := (List (List Int))) 
  (b1 (fun v_sizes => (b1 (fun r => some (Fl.rt r)) (b1 (lcM fun x1 => lcE (some true) (b4 f_rivals (some v_book) (some v_unread) (some v_verse) (some x1))) (b1 rngM (some v_sizes)))))
    (b1 lenL (b3 f_deciding (some v_book) (some v_unread) (some v_verse))))
end Kj

set_option Elab.async false
set_option linter.all false
set_option maxRecDepth 100000
set_option maxHeartbeats 4000000
namespace Kj
open PySem L2
def f_goings (v_book : BookT) (v_unread : (List Int)) (v_heard : (List Str)) : Option (List (P2 Str Int)) := finF (S := Unit) (R := (List (P2 Str Int))) 
  (b1 (fun v_size => (b1 (fun v_counts => (bindF (S1 := Ct) (b1 (fun xs => forF (fun x2 s1 => (b1 (fun v_verse => (bindF (S1 := Ct) (iteM (b2 gtI (b1 lenL (some v_verse)) (some v_size))
    (b2 (fun v z => putC s1 z v fun v_counts => (some (Fl.nx v_counts))) (b2 addI (b2 (getC s1) (b2 atI (some v_verse) (some v_size)) (some (0 : Int))) (some (1 : Int))) (b2 atI (some v_verse) (some v_size)))
    (some (Fl.nx s1))) fun s4 => (some (Fl.nx s4))))
    (b2 f_Book_verse (some v_book) (some x2)))) xs v_counts) (b3 f_meeting (some v_book) (some v_unread) (some v_heard))) fun s1 => (b1 (fun r => some (Fl.rt r)) (some s1)))) (some ([] : Ct))))
    (b1 lenL (some v_heard)))
end Kj

set_option Elab.async false
set_option linter.all false
set_option maxRecDepth 100000
set_option maxHeartbeats 4000000
namespace Kj
open PySem L2
def f_law_share (v_law_verses : (List (List Str))) (v_law_one : Int) (v_law_other : Int) : Option Int := finF (S := Unit) (R := Int) 
  (b1 (fun v_law_size => (b1 (fun v_law_pairs => (bindF (S1 := Int) (whileF (fun s1 => (andM (b2 ltI (some s1) (b1 lenL (some v_law_pairs))) (b2 eqM ((b2 atI (some v_law_pairs) (some s1)).map P2.a) ((b2 atI (some v_law_pairs) (some s1)).map P2.b)))) (fun s1 => (b1 (fun y => (fun v_law_size => (some (Fl.nx v_law_size))) ((fun i j => i + j) s1 y)) (some (1 : Int)))) fuelN v_law_size) fun s1 => (b1 (fun r => some (Fl.rt r)) (some s1))))
    (b2 zipM (b2 atI (some v_law_verses) (some v_law_one)) (b2 atI (some v_law_verses) (some v_law_other)))))
    (some (0 : Int)))
end Kj

set_option Elab.async false
set_option linter.all false
set_option maxRecDepth 100000
set_option maxHeartbeats 4000000
/-! Kj19: list(zip(a, b)). -/
namespace Kj
open PySem L2 PySem.Spec
/-- a zip on its way, while at S a list is being filled -/
def ZSt (h : Heap) (z TI TO i1 i2 l1 l2 S : Addr) (xs ys : Array Value) (i : Nat) : Prop :=
  IsPair h TI (.ref i1) (.ref i2) ∧ h.IsListIter i1 l1 i ∧ h.IsListIter i2 l2 i ∧ h.IsList l1 xs ∧ h.IsList l2 ys ∧
    ((IsZip h z TI TO .none ∧ ∃ a b, IsPair h TO a b) ∨ ∃ T f oT, IsZipHeld h z TI TO T f ∧ h.get? T = some oT ∧ T ≠ z ∧ T ≠ i1 ∧ T ≠ i2 ∧ T ≠ S)
structure ZOff (z TI TO i1 i2 l1 l2 S : Addr) : Prop where
  z : z ≠ S
  TI : TI ≠ S
  TO : TO ≠ S
  i1 : i1 ≠ S
  i2 : i2 ≠ S
  l1 : l1 ≠ S
  l2 : l2 ≠ S
structure ZG (xs ys : Array Value) (lo : Addr) (h : Heap) (as : List Addr) : Prop where
  rise : as.Pairwise (· < ·)
  above : ∀ a ∈ as, lo < a
  pairs : ∀ (j : Nat) (a : Addr), as[j]? = some a → ∃ x y, xs[j]? = some x ∧ ys[j]? = some y ∧ IsPair h a x y
section
variable {prog : Program} {w : World} {A : Around} {E : Value → Shared → Prop} {s : Shared} {z TI TO i1 i2 l1 l2 S : Addr} {xs ys : Array Value} {i : Nat}
theorem ZSt.keep {h h' : Heap} (x : ZSt h z TI TO i1 i2 l1 l2 S xs ys i) (o : ZOff z TI TO i1 i2 l1 l2 S) (hk : ∀ b o, b ≠ S → h.get? b = some o → h'.get? b = some o) : ZSt h' z TI TO i1 i2 l1 l2 S xs ys i := by
  obtain ⟨h1, h2, h3, h4, h5, h6⟩ := x
  refine ⟨hk _ _ o.TI h1, h2.at fun q e => hk _ q o.i1 e, h3.at fun q e => hk _ q o.i2 e, h4.at fun q e => hk _ q o.l1 e, h5.at fun q e => hk _ q o.l2 e, ?_⟩
  rcases h6 with ⟨hz, a, b, hp⟩ | ⟨T, f, oT, hz, hT, r1, r2, r3, r4⟩
  · exact .inl ⟨hk _ _ o.z hz, a, b, hk _ _ o.TO hp⟩
  · exact .inr ⟨T, f, oT, hk _ _ o.z hz, hk _ _ r4 hT, r1, r2, r3, r4⟩
end
section
variable {prog : Program} {w : World} {A : Around} {s : Shared} {R : Result → Shared → Prop} {z TI TO i1 i2 l1 l2 S : Addr} {xs ys : Array Value}
end
section
variable {prog : Program} {w : World} {A : Around} {s : Shared} {R : Result → Shared → Prop} {z TI TO i1 i2 l1 l2 S : Addr} {xs ys : Array Value}
end
end Kj

set_option Elab.async false
set_option linter.all false
set_option maxRecDepth 100000
set_option maxHeartbeats 4000000
/-! Kj20: list(zip(a, b)), read. -/
namespace Kj
open PySem L2 PySem.Spec
def putP : Hp → List Addr → List (V × V) → Hp
  | H, a :: as, p :: ps => putP (upd H a (.tup [p.1, p.2])) as ps
  | H, _, _ => H
def rZipL (K : PySem.W.Frag) : List V → Hp → VK → Prop := fun vs H Q => ∃ a b xs ys, vs = [.ref a, .ref b] ∧ SqL K H a xs ∧ SqL K H b ys ∧
  ∀ (H' : Hp) (p : Addr) (ts : List Addr), (∀ b o, H b = some o → H' b = some o) → H p = none → (∀ t ∈ ts, H t = none) → p ∉ ts → H' p = some (.lst (ts.map V.ref)) → Paired (fun (t : Addr) (q : V × V) => H' t = some (.tup [q.1, q.2])) ts (xs.zip ys) → Q (.ref p) H'
def tListZip (K : PySem.W.Frag) (ta : TA) : TE := fun σ H Q => ta σ H fun vs H1 => rZipL K vs H1 Q
section
variable {X : Cx} {e e2 : Expr} {ta : TA} {p p2 pos2 pos : Pos}
end
section
variable {Gw : WK} {H0 : Hp} {ρ ρ' : List Slot} {K : PySem.W.Frag} {f fa fb fc g : Bool} {ta tb tc te : TE} {α β γ δ : Type}
end
end Kj

set_option Elab.async false
set_option linter.all false
set_option maxRecDepth 100000
set_option maxHeartbeats 4000000
/-! Kj21: len(set(xs)), xs distinct texts. -/
namespace Kj
open PySem PySem.Spec PyProof.Rows L2
section
variable {prog : Program} {w : World} {A : Around} {R : Result → Shared → Prop} {I : Addr} {fp wr : List Addr} {G : Array GenState → Array GenState → Prop} {n : Nat} {P : Nat → Value → Prop} {St : Nat → Shared → Prop}
end
section
variable {P : Program} {w : World} {A : Around} {E : Value → Shared → Prop} {s : Shared}
end
def tLenSetS (K : PySem.W.Frag) (ta : TE) : TE := fun σ H Q => ta σ H fun x H1 => ∃ (l : Addr) (xs : List Str), x = V.ref l ∧ SqL K H1 l (xs.map V.str) ∧ xs.length < 64 ∧ xs.Nodup ∧ Q (.int (xs.length : Nat)) H1
def lenSetM (xs : List Str) : Option Int := if xs.length < 64 ∧ xs.Nodup then some (xs.length : Int) else none
end Kj

set_option Elab.async false
set_option linter.all false
set_option maxRecDepth 100000
set_option maxHeartbeats 4000000
/-! Kj22: len of a pair. -/
namespace Kj
open PySem L2
def lenP2 {α β : Type} (_ : P2 α β) : Option Int := some 2
end Kj

set_option Elab.async false
set_option linter.all false
set_option maxRecDepth 100000
set_option maxHeartbeats 4000000
/-! Kj23: lists of lists, both the caller's own; rows cleared. -/
namespace Kj
open PySem L2
inductive RowsA (H : Hp) : List V → List (List Int) → Prop
  | nil : RowsA H [] []
  | cons {r : Addr} {vs : List V} {x : List Int} {xs : List (List Int)} : H r = some (.lst (x.map V.int)) → RowsA H vs xs → RowsA H (.ref r :: vs) (x :: xs)
theorem RowsA.mono {H H' : Hp} (s : Same H H') : ∀ {vs : List V} {xs : List (List Int)}, RowsA H vs xs → RowsA H' vs xs
  | _, _, .nil => .nil
  | _, _, .cons h t => .cons (s _ _ h) (t.mono s)
theorem RowsA.len {H : Hp} : ∀ {vs : List V} {xs : List (List Int)}, RowsA H vs xs → vs.length = xs.length
  | _, _, .nil => rfl
  | _, _, .cons _ t => by rw [List.length_cons, List.length_cons, t.len]
theorem RowsA.app {H : Hp} {r : Addr} {x : List Int} (hr : H r = some (.lst (x.map V.int))) : ∀ {vs : List V} {xs : List (List Int)}, RowsA H vs xs → RowsA H (vs ++ [.ref r]) (xs ++ [x])
  | _, _, .nil => .cons hr .nil
  | _, _, .cons h t => .cons h (t.app hr)
theorem RowsA.all {H : Hp} : ∀ {vs : List V} {xs : List (List Int)}, RowsA H vs xs → ∀ v ∈ vs, ∃ r x, v = .ref r ∧ H r = some (.lst (List.map V.int x))
  | _, _, .nil, v, h => by cases h
  | _, _, .cons h t, v, hv => by
    rcases List.mem_cons.mp hv with e | e
    · exact ⟨_, _, e, h⟩
    · exact t.all v e
theorem RowsA.dp {K : PySem.W.Frag} {H : Hp} : ∀ {vs : List V} {xs : List (List Int)}, RowsA H vs xs → DpAll K H vs (xs.map en)
  | _, _, .nil => .nil
  | _, _, .cons h t => .cons (.lst (SqL.of h) (dpa_ints _)) t.dp
def aLL (xs : List (List Int)) : Abs := ⟨fun v H => ∃ p vs, v = .ref p ∧ H p = some (.lst vs) ∧ RowsA H vs xs, fun v H H' s ⟨p, vs, e, h, t⟩ => ⟨p, vs, e, s _ _ h, t.mono s⟩⟩
section
variable {Gw : WK} {H0 : Hp} {ρ ρ' : List Slot} {K : PySem.W.Frag} {f fa fb fc g : Bool} {ta tb tc te : TE} {α β γ δ S S1 R : Type} {A : R → Abs} {B : S → List Slot} {t u w : TS}
end
/-! xs.clear() -/
def rClear : V → List V → Hp → VK → Prop := fun x vs H Q => ∃ l xs, x = .ref l ∧ vs = [] ∧ H l = some (.lst xs) ∧ Q .non (upd H l (.lst []))
theorem EnvOk.back {H0 : Hp} {σ : St} {ρ : List Slot} {H Hr H2 : Hp} (E : EnvOk H0 σ ρ H Hr) (s : Same H H2) : EnvOk H0 σ ρ H2 Hr := by
  refine ⟨E.base.trans s, E.sub.trans s, E.len, fun i sl hs => ?_, E.dis, E.reg.to (fun i A h => ⟨h, rfl⟩) (fun a o h1 h2 h3 _ => ⟨s _ _ h1, h2, h3⟩) fun j B p h1 h2 => .inl ⟨B, h1, h2⟩⟩
  have q := E.slot i sl hs
  cases sl with
  | no => trivial
  | reg A => trivial
  | dat A => exact q
  | new A => exact q
  | own B => obtain ⟨p, o, e1, e2, e3, e4, e5⟩ := q; exact ⟨p, o, e1, e2, e3, s _ _ e4, e5⟩
theorem EnvOk.setN {H0 : Hp} {ρ : List Slot} {σ : St} {H Hr : Hp} (E : EnvOk H0 σ ρ H Hr) (i : Nat) (v : Option V) : EnvOk H0 (σ.set i v) (ρ.set i .no) H Hr := by
  have old : ∀ (j : Nat) (s : Slot), (ρ.set i .no)[j]? = some s → s = .no ∨ (ρ[j]? = some s ∧ j ≠ i) := fun j s h => by
    by_cases e : i = j
    · subst e
      by_cases hl : i < ρ.length
      · rw [List.getElem?_set_self hl] at h; exact .inl (Option.some.inj h).symm
      · rw [List.getElem?_eq_none (by rw [List.length_set]; omega)] at h; cases h
    · rw [List.getElem?_set_ne e] at h; exact .inr ⟨h, Ne.symm e⟩
  refine ⟨E.base, E.sub, by simp [E.len], fun j s hs => ?_, fun j k p B B' hjk hj hk ej ek => ?_, E.reg.set1 (fun j n => List.getElem?_set_ne (Ne.symm n)) (fun A z => by cases z) (fun B z => by cases z) fun a o h1 h2 h3 _ => ⟨h1, h2, h3⟩⟩
  · rcases old j s hs with rfl | ⟨h, hne⟩
    · trivial
    · have q := E.slot j s h
      have e : (σ.set i v)[j]? = σ[j]? := List.getElem?_set_ne (Ne.symm hne)
      cases s with
      | no => trivial
      | reg A => trivial
      | dat A => unfold SlotOk at q ⊢; rw [e]; exact q
      | new A => unfold SlotOk at q ⊢; rw [e]; exact q
      | own B => unfold SlotOk at q ⊢; rw [e]; exact q
  · rcases old j _ hj with h | ⟨h1, n1⟩
    · cases h
    · rcases old k _ hk with h | ⟨h2, n2⟩
      · cases h
      · rw [List.getElem?_set_ne (Ne.symm n1)] at ej
        rw [List.getElem?_set_ne (Ne.symm n2)] at ek
        exact E.dis j k p B B' hjk h1 h2 ej ek
end Kj

set_option Elab.async false
set_option linter.all false
set_option maxRecDepth 100000
set_option maxHeartbeats 4000000
/-! Kj25: xs[i] = y on one's own list; db_told for a call with three arguments. -/
namespace Kj
open PySem L2
def setIM {α β : Type} (xs : List α) (n : Int) (v : α) (k : List α → Option β) : Option β := match ixN xs.length n with | some j => k (xs.set j v) | none => none
theorem dpa_set {K : PySem.W.Frag} {H : Hp} {v : V} {d : PyData} (hv : Dp K H v d) : ∀ {vs : List V} {ds : List PyData} (j : Nat), DpAll K H vs ds → DpAll K H (vs.set j v) (ds.set j d)
  | _, _, _, .nil => .nil
  | _, _, 0, .cons _ t => .cons hv t
  | _, _, j + 1, .cons h t => .cons h (dpa_set hv j t)
section
variable {Gw : WK} {H0 : Hp} {ρ ρ' : List Slot} {K : PySem.W.Frag} {f fa fb fc g : Bool} {ta tb tc td te : TE} {α β γ δ S S1 R : Type} {A : R → Abs} {B : S → List Slot} {t u w : TS}
theorem db_seti [Enc α] {i : Nat} {xs : List α} {mv : Option α} {mn : Option Int} {k : List α → Option (Fl S R)} (hi : ρ[i]? = some (.own (oE K xs))) (hv : DM H0 ρ te true (aE K) mv) (hn : DM H0 ρ ta fa (aE K) mn)
    (hk : ∀ x : List α, DB Gw H0 (ρ.set i (.own (oE K x))) u A (k x) B) : DB Gw H0 ρ (tSeq (tAsg te (gSub (tVar i) ta rSetL)) u) A (b2 (fun v n => setIM xs n v k) mv mn) B := fun fl e => by
  obtain ⟨v, n, h1, h2, h⟩ := b2_some e
  unfold setIM at h
  split at h
  · rename_i j hj
    refine ds_sq (ρ1 := ρ.set i (.own (oE K (xs.set j v)))) (fun σ H Hr D E kn kr kx => ?_) (hk _ fl h)
    refine hv v h1 σ H Hr _ E fun y H1 Hr1 x1 a1 => ?_
    obtain ⟨p, o, e1, e2, e3, e4, us, rfl, e6⟩ := (E.ext x1).slot i _ hi
    refine ⟨_, e1, hn n h2 σ H1 Hr1 _ (E.ext x1) fun y2 H2 Hr2 x2 a2 => ?_⟩
    cases a2
    have lu := dpa_len e6
    rw [List.length_map] at lu
    refine ⟨p, us, n, j, rfl, rfl, x2.h _ _ e4, by rw [lu]; exact hj, ?_⟩
    refine kn _ _ _ Hr2 rfl (((E.ext x1).ext x2).wr hi e1 ⟨_, rfl, ?_⟩) (x1.r.trans x2.r)
    rw [List.map_set]
    exact dpa_set (dp_mono (mns_mono H0 x2.r) _ _ a1) j (dpa_mono (mns_mono H0 x2.r) _ _ e6)
  · cases h
end
end Kj

set_option Elab.async false
set_option linter.all false
set_option maxRecDepth 100000
set_option maxHeartbeats 4000000
/-! Kj30: lists and tuples of things of any kind; results that may be the caller's own data; targets. -/
namespace Kj
open PySem L2
/-! ### lists and tuples of things of any kind -/
def aLsA (K : PySem.W.Frag) (As : List Abs) : Abs := ⟨fun v H => ∃ p vs, v = .ref p ∧ SqL K H p vs ∧ AllP As vs H, fun v H H' s ⟨p, vs, e, h, t⟩ => ⟨p, vs, e, s.seq h, t.mono s⟩⟩
def aTpA (K : PySem.W.Frag) (As : List Abs) : Abs := ⟨fun v H => ∃ p vs, v = .ref p ∧ SqT K H p vs ∧ AllP As vs H, fun v H H' s ⟨p, vs, e, h, t⟩ => ⟨p, vs, e, seqT s h, t.mono s⟩⟩
abbrev aLs {α : Type} (K : PySem.W.Frag) (A : α → Abs) (xs : List α) : Abs := aLsA K (xs.map A)
abbrev aT2 {α β : Type} (K : PySem.W.Frag) (A : α → Abs) (B : β → Abs) (x : P2 α β) : Abs := aTpA K [A x.a, B x.b]
abbrev aT3 {α β γ : Type} (K : PySem.W.Frag) (A : α → Abs) (B : β → Abs) (C : γ → Abs) (x : P3 α β γ) : Abs := aTpA K [A x.a, B x.b, C x.c]
abbrev aT4 {α β γ δ : Type} (K : PySem.W.Frag) (A : α → Abs) (B : β → Abs) (C : γ → Abs) (D : δ → Abs) (x : P4 α β γ δ) : Abs := aTpA K [A x.a, B x.b, C x.c, D x.d]
theorem allp_dpa {K : PySem.W.Frag} {H : Hp} : ∀ {ds : List PyData} {vs : List V}, DpAll K H vs ds → AllP (ds.map (aD K)) vs H
  | [], _, h => by cases h; exact .nil
  | d :: ds, _, h => by
    cases h with
    | cons h1 h2 => exact .cons h1 (allp_dpa h2)
theorem aTp_of {K : PySem.W.Frag} {ds : List PyData} {v : V} {H : Hp} (h : (aD K (.tuple ds)).p v H) : (aTpA K (ds.map (aD K))).p v H := by
  have h : Dp K H v (.tuple ds) := h
  cases h with
  | tup hs hA =>
    refine ⟨_, _, rfl, hs, ?_⟩
    exact allp_dpa hA
section
variable {H0 : Hp} {ρ ρ' ρ1 ρ2 : List Slot} {K : PySem.W.Frag} {f fa fb fc g : Bool} {ta tb tc td te : TE} {α β γ δ : Type} {A : α → Abs} {B : β → Abs} {C : γ → Abs} {D : δ → Abs}
theorem da_consF {t : TA} {A : Abs} {As : List Abs} (h : DE H0 ρ te f A) (hr : DA H0 ρ t f As) : DA H0 ρ (tCons te t) f (A :: As) := fun σ H Hr Q E k => h σ H Hr _ E fun v H1 Hr1 x1 a1 => hr σ H1 Hr1 _ (E.ext x1) fun vs H2 Hr2 x2 a2 =>
  k (v :: vs) H2 Hr2 (x1.trans x2) (.cons (A.mono _ _ _ (hp_mono f H0 x2.r) a1) a2)
theorem da_nilF : DA H0 ρ tNil f [] := fun σ H Hr Q E k => k [] H Hr (Ext.refl E.sub) .nil
def DAmA (H0 : Hp) (ρ : List Slot) (t : TA) (f : Bool) {α : Type} (A : α → Abs) (m : Option (List α)) : Prop := ∀ xs, m = some xs → DA H0 ρ t f (xs.map A)
/-- items 1, 2, 3 of four -/
theorem dm_ixT4b [Enc α] [Enc β] [Enc γ] [Enc δ] {m : Option (P4 α β γ δ)} (h : DM H0 ρ ta f (aE K) m) : DM H0 ρ (tOp (rIxT K) ta (tC (.int 1))) f (aE K) (m.map P4.b) := fun x e => by
  obtain ⟨p, h1, rfl⟩ := Option.map_eq_some_iff.mp e
  exact de_ixT (fb := true) (h p h1) de_int rfl
theorem dm_ixT4c [Enc α] [Enc β] [Enc γ] [Enc δ] {m : Option (P4 α β γ δ)} (h : DM H0 ρ ta f (aE K) m) : DM H0 ρ (tOp (rIxT K) ta (tC (.int 2))) f (aE K) (m.map P4.c) := fun x e => by
  obtain ⟨p, h1, rfl⟩ := Option.map_eq_some_iff.mp e
  exact de_ixT (fb := true) (h p h1) de_int rfl
theorem dm_ixT4d [Enc α] [Enc β] [Enc γ] [Enc δ] {m : Option (P4 α β γ δ)} (h : DM H0 ρ ta f (aE K) m) : DM H0 ρ (tOp (rIxT K) ta (tC (.int 3))) f (aE K) (m.map P4.d) := fun x e => by
  obtain ⟨p, h1, rfl⟩ := Option.map_eq_some_iff.mp e
  exact de_ixT (fb := true) (h p h1) de_int rfl
/-! targets -/
def DGs (H0 : Hp) (ρ : List Slot) (g : TGs) (f : Bool) (As : List Abs) (ρ' : List Slot) (vs : List Nat) : Prop :=
  ∀ (σ : St) (H Hr : Hp) (us : List V) (Q : St → Hp → Prop), EnvOk H0 σ ρ H Hr → AllP As us (hp f Hr H0) → (∀ σ', EnvOk H0 σ' ρ' H Hr → wipe σ' vs = wipe σ vs → Q σ' H) → g us σ H Q
theorem dgs_nil {vs : List Nat} : DGs H0 ρ gNil f [] ρ vs := fun σ H Hr us Q E h k => by cases h; exact ⟨rfl, k σ E rfl⟩
theorem dgs_cons {A1 : Abs} {As : List Abs} {vs : List Nat} {g : TG} {gs : TGs} (h : DG H0 ρ g f A1 ρ1 vs) (t : DGs H0 ρ1 gs f As ρ2 vs) : DGs H0 ρ (gCons g gs) f (A1 :: As) ρ2 vs := fun σ H Hr us Q E hA k => by
  cases hA with
  | cons a as => exact ⟨_, _, rfl, h σ H Hr _ _ E a fun σ1 E1 w1 => t σ1 H Hr _ _ E1 as fun σ2 E2 w2 => k σ2 E2 (w2.trans w1)⟩
theorem dg_tupA {As : List Abs} {vs : List Nat} {gs : TGs} {n : Nat} (h : DGs H0 ρ gs f As ρ1 vs) (hn : As.length = n := by rfl) : DG H0 ρ (gTup K n gs) f (aTpA K As) ρ1 vs := fun σ H Hr v Q E hA k => by
  obtain ⟨a, us, rfl, hs, hA⟩ := hA
  exact ⟨a, us, rfl, seqT ((hp_sub f).trans E.sub) hs, by rw [← hA.length]; exact hn, h σ H Hr us Q E hA k⟩
theorem dg_imp {A1 A2 : Abs} {vs : List Nat} {g : TG} (h : DG H0 ρ g f A1 ρ1 vs) (i : ∀ v G, A2.p v G → A1.p v G) : DG H0 ρ g f A2 ρ1 vs := fun σ H Hr v Q E a k => h σ H Hr v Q E (i _ _ a) k
theorem dg_t2 [Enc α] [Enc β] {x : P2 α β} {vs : List Nat} {gs : TGs} (h : DGs H0 ρ gs f [aE K x.a, aE K x.b] ρ1 vs) : DG H0 ρ (gTup K 2 gs) f (aE K x) ρ1 vs := dg_imp (dg_tupA h) fun v G a => aTp_of (ds := [en x.a, en x.b]) a
theorem dg_t4 [Enc α] [Enc β] [Enc γ] [Enc δ] {x : P4 α β γ δ} {vs : List Nat} {gs : TGs} (h : DGs H0 ρ gs f [aE K x.a, aE K x.b, aE K x.c, aE K x.d] ρ1 vs) : DG H0 ρ (gTup K 4 gs) f (aE K x) ρ1 vs := dg_imp (dg_tupA h) fun v G a => aTp_of (ds := [en x.a, en x.b, en x.c, en x.d]) a
theorem dg_nm {A1 : Abs} {i : Nat} {vs : List Nat} (hi : Nat.blt i ρ.length = true := by rfl) (hv : vs.contains i = true := by rfl) : DG H0 ρ (gName i) f A1 (ρ.set i (sl f A1)) vs := fun σ H Hr v Q E a k => k _ (E.set (lt_of hi) a) (wipe_set (by simpa using hv))
end
/-! ### calls whose result may be the caller's own data -/
def spR (S : Spec) : Sp := fun vs H Q _ => ∃ As R Hr, S As R ∧ Same Hr H ∧ AllP As vs Hr ∧ ∀ v H' Hr', Ext H Hr H' Hr' → R.p v Hr' → Q v H'
def joinR (Hr1 Hr2 : Hp) : Hp := fun a => match Hr1 a with | some o => some o | none => Hr2 a
theorem joinR_l {Hr1 Hr2 : Hp} : Same Hr1 (joinR Hr1 Hr2) := fun a o h => by unfold joinR; rw [h]
theorem joinR_r {H Hr1 Hr2 : Hp} (s1 : Same Hr1 H) (s2 : Same Hr2 H) : Same Hr2 (joinR Hr1 Hr2) := fun a o h => by
  unfold joinR
  cases q : Hr1 a with
  | none => exact h
  | some u => have := s1 _ _ q; rw [s2 _ _ h] at this; exact this.symm
theorem Ext.sub {H0 H1 Hr1 H2 Hr2 : Hp} {f : Bool} (b : Same H0 H1) (s : Same Hr1 H1) (x : Ext H1 (hp f Hr1 H0) H2 Hr2) : Ext H1 Hr1 H2 (joinR Hr1 Hr2) ∧ Same Hr2 (hp f (joinR Hr1 Hr2) H0) := by
  have sj : Same Hr2 (joinR Hr1 Hr2) := joinR_r (s.trans x.h) x.s
  refine ⟨⟨x.h, joinR_l, fun a o h => ?_, fun a o h h' => ?_⟩, ?_⟩
  · unfold joinR at h
    cases q : Hr1 a with
    | some u => rw [q] at h; cases h; exact x.h _ _ (s _ _ q)
    | none => rw [q] at h; exact x.s _ _ h
  · unfold joinR at h
    rw [h'] at h
    exact x.n a o h ((hp_sub f).free h')
  · cases f
    · exact sj
    · intro a o h
      refine mns_some.mpr ⟨?_, sj _ _ h⟩
      cases q : (mns Hr1 H0) a with
      | some u => exact (mns_some.mp q).1
      | none => exact b.free (x.n a o h q)
section
variable {H0 : Hp} {ρ ρ' : List Slot} {K : PySem.W.Frag} {f fa fb : Bool} {ta tb te : TE} {α β γ δ : Type}
theorem de_callR {S : Spec} {As : List Abs} {R : Abs} {t : TA} {Ex : XK} (ha : DA H0 ρ t f As) (hs : S As R) : DE H0 ρ (tCall (spR S) [] Ex t) f R := fun σ H Hr Q E k => by
  refine ha σ H Hr _ E fun vs H1 Hr1 x1 a1 => ?_
  show spR S (vs ++ []) H1 Q Ex
  rw [List.append_nil]
  have E1 := E.ext x1
  refine ⟨As, R, hp f Hr1 H0, hs, (hp_sub f).trans x1.s, a1, fun v H2 Hr2 x2 r2 => ?_⟩
  obtain ⟨x3, s3⟩ := Ext.sub E1.base E1.sub x2
  exact k v H2 _ (x1.trans x3) (R.mono _ _ _ s3 r2)
end
theorem env_startN {H Hr : Hp} (s : Same Hr H) : ∀ {As : List Abs} {vs : List V} (n : Nat), AllP As vs Hr → EnvOk (mns H Hr) (vs.map some ++ List.replicate n none) (As.map Slot.new ++ List.replicate n Slot.no) H Hr := fun {As vs} n h => by
  have hl := h.length
  have cls : ∀ (i : Nat) (s : Slot), (As.map Slot.new ++ List.replicate n Slot.no)[i]? = some s → s = .no ∨ ∃ A, s = .new A ∧ As[i]? = some A := fun i s hs => by
    by_cases hi : i < As.length
    · rw [List.getElem?_append_left (by simpa using hi), List.getElem?_map, List.getElem?_eq_getElem hi] at hs
      exact .inr ⟨As[i], (Option.some.inj hs).symm, List.getElem?_eq_getElem hi⟩
    · rw [List.getElem?_append_right (by simpa using Nat.le_of_not_lt hi)] at hs
      obtain ⟨z, e⟩ := List.getElem?_eq_some_iff.mp hs
      rw [List.getElem_replicate] at e
      exact .inl e.symm
  refine ⟨fun a o q => (mns_some.mp q).2, s, by simp [hl], fun i s hs => ?_, fun i j p B B' _ hi _ _ _ => ?_, .nil fun i A h => by rcases cls i _ h with e | ⟨A, e, _⟩ <;> cases e⟩
  · rcases cls i s hs with rfl | ⟨A, rfl, hA⟩
    · trivial
    · obtain ⟨v, h1, h2⟩ := allp_get h i A hA
      have hi : i < vs.length := (List.getElem?_eq_some_iff.mp h1).1
      exact ⟨v, by rw [List.getElem?_append_left (by simpa using hi), List.getElem?_map, h1]; rfl, A.mono _ _ _ (fun a o q => mns_some.mpr ⟨by unfold mns; rw [q], q⟩) h2⟩
  · rcases cls i _ hi with e | ⟨A, e, _⟩ <;> cases e
section
variable {P : Program} {w : World} {K : PySem.W.Frag} {mg : Str → Option Value} {base : Heap}
theorem fnR_ok {x qual : Str} {st : Stmt} {f : Addr} {fd : FuncData} {N ps : List Str} {k : Nat} {S : Spec} (F : FnP K x qual st f fd) (Sc : FnScope N ps (defScope st)) (len : ∀ As R, S As R → As.length = ps.length)
    (body : ∀ (cdv : Value) (A : Around) (outer : List Env) (s : Shared) (H : Hp) (E : XK), Room k (A.deeper (PyProof.Rows.envOfC qual (defScope st) s.heap.objs.size f cdv)) →
      ∃ t, PSs (cxOf CX0 P w K mg base N qual (defScope st) f cdv A outer s H E).nox (defBody st) t ∧ ∀ H0 As R, S As R → DS C0 H0 (As.map Slot.new ++ List.replicate (N.length - As.length) Slot.no) t (fun _ => ∀ G, R.p .non G) R) : FnOk P w K mg base CX0 (k + 1) f fd ps (spR S) := by
  refine F.ok Sc (fun vs H Q E h => ?_) (fun cdv A outer s H vs Q E hr h => ?_)
  · obtain ⟨As, R, Hr, h1, _, h2, _⟩ := h
    rw [← h2.length]; exact len As R h1
  · obtain ⟨As, R, Hr, h1, hs, h2, h3⟩ := h
    obtain ⟨t, p, d⟩ := body cdv A outer s H E hr
    have out : ∀ v H', Same (mns H Hr) H' → Same Hr H' → R.p v (mns H' (mns H Hr)) → Q v H' := fun v H' s1 s2 r => by
      have sH : Same H H' := fun a o q => by
        cases z : Hr a with
        | some u => have := hs _ _ z; rw [q] at this; cases this; exact s2 _ _ z
        | none => exact s1 _ _ (mns_some.mpr ⟨z, q⟩)
      refine h3 v H' _ (Ext.call hs (Same.refl H) sH) (R.mono _ _ _ (fun a o q => ?_) r)
      obtain ⟨q1, q2⟩ := mns_some.mp q
      unfold joinH
      cases z : Hr a with
      | some u => have := s2 _ _ z; rw [q2] at this; exact this.symm
      | none =>
        refine mns_some.mpr ⟨?_, q2⟩
        cases y : H a with
        | none => rfl
        | some u => rw [mns_some.mpr ⟨z, y⟩] at q1; cases q1
    refine ⟨t, p.nox, d _ As R h1 _ H Hr _ ?_ (fun _ _ H' _ n E' s => out .non H' E'.base (s.trans E'.sub) (n _)) out (KX.no fun _ _ _ _ z => z)⟩
    have e := env_startN hs (n := N.length - vs.length) h2
    unfold L2.start
    rw [h2.length]
    exact e
end
end Kj

set_option Elab.async false
set_option linter.all false
set_option maxRecDepth 100000
set_option maxHeartbeats 4000000
/-! Kj31: a comprehension with three fors. -/
namespace Kj
open PySem PySem.Spec PyProof.Rows L2
abbrev FF : Value → Shared → Prop := fun _ _ => False
abbrev Bd := L2.St → Hp → (Hp → Prop) → Prop
abbrev Rn := Shared → (Shared → Prop) → Prop
/-- what the work of one turn comes to -/
def Wrk (Y : Cx) (us : List Nat) (B : Bd) (run : Rn) : Prop :=
  ∀ (pins : List (Addr × Obj)) (s : Shared) (σ : L2.St) (H : Hp) (Nx : Hp → Prop) (Po : Shared → Prop), Inv Y pins σ H s → B σ H Nx →
    (∀ s' σ' H', Inv Y pins σ' H' s' → σ'.length = σ.length → (∀ (j : Nat) v, j ∉ us → σ[j]? = some (some v) → σ'[j]? = some (some v)) → Nx H' → Po s') → run s Po
def LpR (J : It) (g : TG) (tt : TT) (B : Bd) (us : List Nat) (σ : L2.St) (H : Hp) (Nx : Hp → Prop) : Prop :=
  ∃ W : Nat → Nat → Hp → Prop, (∃ m, W 0 m H) ∧ ∀ i m G, W i m G → (J.stop i G ∧ Nx G) ∨ (J.go i G ∧ ∃ N' : Hp → Prop, (∀ G', N' G' → ∃ m', m' < m ∧ W (i + 1) m' G') ∧
    ∀ x G', J.yld i G x G' → g x (wipe σ us) G' fun σ2 H2 => wipe σ2 us = wipe σ us ∧ tt σ2 H2 fun b H3 => if b = true then B σ2 H3 N' else N' H3)
def TurnRule (P : Program) (w : World) (A : Around) (env : Env) (c : Expr) (k : Nat) (t0 : Expr) (ifs0 : List Expr) (it : Addr) (acc : Value) (run : Rn) : Prop :=
  ∀ (R : Result → Shared → Prop) (I : Nat → Shared → Prop), (∀ n s, I n s → wpAny (model P w) A (pyNext (.ref it)) (fun r s1 => match r with
      | none => R (.ok .next) s1
      | some v => wpAny (model P w) A (letOwnedTupleGo t0 (.ref it) v) (fun _ s2 => wpAny (model P w) A (assign t0 env v) (fun _ s3 =>
          wpAny (model P w) A (forIn ifs0 true fun c r => if r = true then do let ok ← isTrue c env (eval c env); pure (ForInStep.yield ok) else pure (ForInStep.yield r)) (fun ok s4 =>
            if ok = true then run s4 (fun s' => ∃ m, m < n ∧ I m s') else ∃ m, m < n ∧ I m s4) FF s3) FF s2) FF s1) FF s) →
    ∀ n s, I n s → codeAny (model P w) A (.compLoop c k (.ref it) acc env) R s
theorem lp_ok {X : Cx} {s3 : Shared} {H3 : Hp} {scope : Scope} {ce : Env} {fp0 : List Addr} {c t0 : Expr} {ifs0 : List Expr} {k : Nat} {it : Addr} {acc : Value} {run : Rn} {J : It} {fp : List Addr} {tn : Nat → Heap → Prop} {g : TG} {tt : TT} {B : Bd} {us : List Nat} {pins : List (Addr × Obj)} {σ : L2.St} {H : Hp} {s : Shared} {Nx : Hp → Prop}
    (hc : X.calm = true) (T : Turn X.prog X.w X.K t0 J fp it tn) (pg : PG (X.blk s3 H3 scope ce fp0) t0 g) (pt : PTs (X.blk s3 H3 scope ce fp0) ifs0 tt)
    (hf : ∀ σ' H' s', Inv (X.blk s3 H3 scope ce fp0) pins σ' H' s' → (∀ b ∈ fp, H' b = none) → ∀ b ∈ fp, FpOk (X.blk s3 H3 scope ce fp0) pins H' b)
    (hr : TurnRule X.prog X.w X.A ce c k t0 ifs0 it acc run) (hw : Wrk (X.blk s3 H3 scope ce fp0) us B run)
    (I0 : Inv (X.blk s3 H3 scope ce fp0) pins (wipe σ us) H s) (st : tn 0 s.heap) (nf : ∀ b ∈ fp, H b = none) (rd : LpR J g tt B us σ H Nx) :
    codeAny (model X.prog X.w) X.A (.compLoop c k (.ref it) acc ce) (fun r s' => match r with
      | .ok .next => ∃ H', Inv (X.blk s3 H3 scope ce fp0) pins (wipe σ us) H' s' ∧ (∀ b ∈ fp, H' b = none) ∧ Nx H'
      | _ => False) s := by
  obtain ⟨W, ⟨m0, w0⟩, turn⟩ := rd
  refine hr _ (fun n u => ∃ i G, Inv (X.blk s3 H3 scope ce fp0) pins (wipe σ us) G u ∧ tn i u.heap ∧ (∀ b ∈ fp, G b = none) ∧ W i n G) ?_ m0 s ⟨0, H, I0, st, nf, w0⟩
  rintro n u ⟨i, G, IG, stG, nG, wG⟩
  rcases turn i n G wG with ⟨stop, nx⟩ | ⟨go, N', hN', step⟩
  · refine thnF (T.done (X.blk s3 H3 scope ce fp0) rfl rfl rfl hc i pins u _ G FF IG (hf _ _ _ IG nG) stG stop) fun r u2 ⟨e, I2⟩ => ?_
    subst e
    exact ⟨G, I2, nG, nx⟩
  · refine thnF (T.item (X.blk s3 H3 scope ce fp0) rfl rfl rfl hc i pins u _ G FF IG (hf _ _ _ IG nG) stG go) fun r u2 ⟨z, e, h2⟩ => ?_
    subst e
    refine thnF h2 fun _ u3 ⟨x, G3, I3, r3, y3, st3, n3⟩ => ?_
    have I3' := I3.pinned (hf _ _ _ I3 n3) (T.obj _ _ st3)
    refine thnF (pg.run _ u3 _ G3 x z _ I3' r3 (step x G3 y3)) fun _ u4 ⟨σ4, G4, I4, e4, q4⟩ => ?_
    refine thnF (pt.run _ u4 σ4 G4 _ I4 q4) fun b u5 ⟨G5, I5, q5⟩ => ?_
    have hl4 : (wipe σ us).length = σ4.length := by rw [← e4, wipe_length]
    have fin : ∀ {σ6 : L2.St} {u6 : Shared} {G6 : Hp}, Inv (X.blk s3 H3 scope ce fp0) (pins ++ pinsAt fp u3.heap) σ6 G6 u6 → σ6.length = σ4.length → (∀ (j : Nat) v, j ∉ us → σ4[j]? = some (some v) → σ6[j]? = some (some v)) → N' G6 →
        ∃ m, m < n ∧ ∃ i G, Inv (X.blk s3 H3 scope ce fp0) pins (wipe σ us) G u6 ∧ tn i u6.heap ∧ (∀ b ∈ fp, G b = none) ∧ W i m G := fun {σ6 u6 G6} I6 hl hk nx => by
      obtain ⟨m', hm, w'⟩ := hN' G6 nx
      have pin' : ∀ b ∈ fp, ∀ o, u3.heap.get? b = some o → u6.heap.get? b = some o ∧ G6 b = none := fun b hb o e => by
        have := I6.pin (b, o) (List.mem_append_right _ (List.mem_append_right _ (mem_pinsAt hb e)))
        exact ⟨this.1, this.2.1⟩
      refine ⟨m', hm, i + 1, G6, I6.unpinned.weak (by rw [hl, hl4]) (fun j v e => ?_), T.keep _ _ _ st3 fun b hb o e => (pin' b hb o e).1, fun b hb => ?_, w'⟩
      · rw [← e4] at e
        obtain ⟨e1, e2⟩ := wipe_some e
        exact hk j v e2 e1
      · obtain ⟨o, e, _⟩ := T.obj _ _ st3 b hb
        exact (pin' b hb o e).2
    cases b with
    | false =>
      simp only [Bool.false_eq_true, if_false] at q5 ⊢
      exact fin I5 rfl (fun _ _ _ e => e) q5
    | true =>
      simp only [if_true] at q5 ⊢
      exact hw _ u5 σ4 G5 N' _ I5 q5 fun u6 σ6 G6 I6 hl hk nx => fin I6 hl hk nx
abbrev sTests (env : Env) (ifs : List Expr) : Sem Bool := forIn ifs true fun c r => if r = true then do let ok ← isTrue c env (eval c env); pure (ForInStep.yield ok) else pure (ForInStep.yield r)
def rnIn (P : Program) (w : World) (A : Around) (env : Env) (elt : Expr) (acc : Value) : Rn := fun s Po => wpAny (model P w) A (eval elt env) (fun x s1 => wpAny (model P w) A (call (.builtin "list.append") [acc, x]) (fun _ s2 => Po s2) FF s1) FF s
def rnOut (P : Program) (w : World) (A : Around) (env : Env) (c : Expr) (k : Nat) (j1 : Expr) (acc : Value) : Rn := fun s Po => wpAny (model P w) A (eval j1 env) (fun x s1 => wpAny (model P w) A (pyIter x) (fun i2 s2 =>
  codeAny (model P w) A (.compStart c k i2 acc env) (fun r s' => match r with
    | .ok _ => Po s'
    | .error _ => False) s2) FF s1) FF s
section
variable {P : Program} {w : World} {A : Around} {env : Env} {c t0 j0 j1 elt : Expr} {ifs0 : List Expr} {k : Nat} {it : Addr} {acc : Value}
theorem tr_in (hq : (Code.compLoop c k (.ref it) acc env).quiet = true)
    (hu : A.under (.compLoop c k (.ref it) acc env) = A) (hd : (model P w).den (.compLoop c k (.ref it) acc env) = (compTurn c k (.ref it) acc env).onRaise (fun x => do noteFrame x env; theTreesLotGoes x))
    (ht : compTurn c k (.ref it) acc env = (do
      standAt j0.pos
      match ← pyNext (.ref it) with
      | none => pure (.done .next)
      | some v =>
        letOwnedTupleGo t0 (.ref it) v
        assign t0 env v
        let mut ok := true
        for d in ifs0 do
          if ok then ok ← isTrue d env (eval d env)
        if ok then
          (do let _ ← call (.builtin "list.append") [acc, ← eval elt env])
        again (.compLoop c k (.ref it) acc env))) : TurnRule P w A env c k t0 ifs0 it acc (rnIn P w A env elt acc) := by
  intro R I turn n s h
  refine codeAny_loop hq I (fun n s hI => ?_) n h
  rw [hd, hu]
  refine wpAny_noted ?_
  rw [ht]
  refine wpAny_bind (wpAny_standAt (wpAny_bind (thnF (turn n s hI) fun r s1 h1 => ?_)))
  cases r with
  | none => exact wpAny_pure h1
  | some v =>
    refine wpAny_bind (thnF h1 fun _ s2 h2 => ?_)
    refine wpAny_bind (thnF h2 fun _ s3 h3 => wpAny_bind (thnF h3 fun ok s4 h4 => ?_))
    cases ok with
    | false => exact wpAny_pure ⟨rfl, h4⟩
    | true => exact wpAny_bind (wpAny_bind (thnF h4 fun x s5 h5 => wpAny_bind (thnF h5 fun _ s6 h6 => wpAny_pure (wpAny_pure ⟨rfl, h6⟩))))
theorem tr_out (hq : (Code.compLoop c k (.ref it) acc env).quiet = true) (hs : ∀ x, foldedSetIterable j1 env x = pure x)
    (hu : A.under (.compLoop c k (.ref it) acc env) = A) (hd : (model P w).den (.compLoop c k (.ref it) acc env) = (compTurn c k (.ref it) acc env).onRaise (fun x => do noteFrame x env; theTreesLotGoes x))
    (ht : compTurn c k (.ref it) acc env = (do
      standAt j0.pos
      match ← pyNext (.ref it) with
      | none => pure (.done .next)
      | some v =>
        letOwnedTupleGo t0 (.ref it) v
        assign t0 env v
        let mut ok := true
        for d in ifs0 do
          if ok then ok ← isTrue d env (eval d env)
        if ok then
          let y ← eval j1 env
          standAt j1.pos
          let y ← foldedSetIterable j1 env y
          let _ ← runOwn (.compStart c (k + 1) (← holding [y] (pyIter y)) acc env) env
        again (.compLoop c k (.ref it) acc env))) : TurnRule P w A env c k t0 ifs0 it acc (rnOut P w A env c (k + 1) j1 acc) := by
  intro R I turn n s h
  refine codeAny_loop hq I (fun n s hI => ?_) n h
  rw [hd, hu]
  refine wpAny_noted ?_
  rw [ht]
  refine wpAny_bind (wpAny_standAt (wpAny_bind (thnF (turn n s hI) fun r s1 h1 => ?_)))
  cases r with
  | none => exact wpAny_pure h1
  | some v =>
    refine wpAny_bind (thnF h1 fun _ s2 h2 => ?_)
    refine wpAny_bind (thnF h2 fun _ s3 h3 => wpAny_bind (thnF h3 fun ok s4 h4 => ?_))
    cases ok with
    | false => exact wpAny_pure ⟨rfl, h4⟩
    | true =>
      refine wpAny_bind (thnF h4 fun x s5 h5 => ?_)
      refine wpAny_bind (wpAny_standAt (wpAny_bind (wpAny_of_eq (hs x) (wpAny_bind (wpAny_holding (thnF h5 fun i2 s6 h6 => ?_))))))
      refine wpAny_bind (wpAny_runOwn ?_)
      rw [Around.mark_none]
      refine codeAny_mono h6 fun r s' hr => ?_
      cases r with
      | ok f => first | exact wpAny_pure ⟨rfl, hr⟩ | exact wpAny_bind (wpAny_pure (wpAny_pure ⟨rfl, hr⟩))
      | error e => exact hr.elim
end
section
variable {P : Program} {w : World} {A : Around} {env : Env} {elt t0 i0 t1 i1 t2 i2 : Expr} {f0 f1 f2 : List Expr} {scope : Scope} {pos : Pos} {it : Addr} {acc : Value}
abbrev lc3E (elt t0 i0 t1 i1 t2 i2 : Expr) (f0 f1 f2 : List Expr) (scope : Scope) (pos : Pos) : Expr := .ListComp elt [⟨t0, i0, f0, 0⟩, ⟨t1, i1, f1, 0⟩, ⟨t2, i2, f2, 0⟩] scope pos
theorem tr3_0 (hs : ∀ x, foldedSetIterable i1 env x = pure x) : TurnRule P w A env (lc3E elt t0 i0 t1 i1 t2 i2 f0 f1 f2 scope pos) 0 t0 f0 it acc (rnOut P w A env (lc3E elt t0 i0 t1 i1 t2 i2 f0 f1 f2 scope pos) 1 i1 acc) := tr_out (j0 := i0) rfl hs rfl rfl rfl
theorem tr3_1 (hs : ∀ x, foldedSetIterable i2 env x = pure x) : TurnRule P w A env (lc3E elt t0 i0 t1 i1 t2 i2 f0 f1 f2 scope pos) 1 t1 f1 it acc (rnOut P w A env (lc3E elt t0 i0 t1 i1 t2 i2 f0 f1 f2 scope pos) 2 i2 acc) := tr_out (j0 := i1) rfl hs rfl rfl rfl
theorem tr3_2 : TurnRule P w A env (lc3E elt t0 i0 t1 i1 t2 i2 f0 f1 f2 scope pos) 2 t2 f2 it acc (rnIn P w A env elt acc) := tr_in (j0 := i2) rfl rfl rfl rfl
theorem tr2_0 (hs : ∀ x, foldedSetIterable i1 env x = pure x) : TurnRule P w A env (.ListComp elt [⟨t0, i0, f0, 0⟩, ⟨t1, i1, f1, 0⟩] scope pos) 0 t0 f0 it acc (rnOut P w A env (.ListComp elt [⟨t0, i0, f0, 0⟩, ⟨t1, i1, f1, 0⟩] scope pos) 1 i1 acc) := tr_out (j0 := i0) rfl hs rfl rfl rfl
theorem tr2_1 : TurnRule P w A env (.ListComp elt [⟨t0, i0, f0, 0⟩, ⟨t1, i1, f1, 0⟩] scope pos) 1 t1 f1 it acc (rnIn P w A env elt acc) := tr_in (j0 := i1) rfl rfl rfl rfl
end
/-! the start of a clause behind the first -/
def StartRule (P : Program) (w : World) (A : Around) (env : Env) (c : Expr) (k : Nat) (acc : Value) : Prop := ∀ (it : Addr) (R : Result → Shared → Prop) (s : Shared),
  codeAny (model P w) A (.compLoop c k (.ref it) acc env) R s → wpAny (model P w) A (pyIter (.ref it)) (fun it' s' => codeAny (model P w) A (.compLoop c k it' acc env) R s') FF s → codeAny (model P w) A (.compStart c k (.ref it) acc env) R s
theorem sr_of {P : Program} {w : World} {A : Around} {env : Env} {c : Expr} {k : Nat} {acc : Value} {g : Comprehension} (hu : ∀ it, A.under (.compStart c k it acc env) = A) (hq : ∀ it, (Code.compLoop c k it acc env).quiet = true)
    (hd : ∀ it, (model P w).den (.compStart c k it acc env) = (compStart c k it acc env).onRaise (fun x => do noteFrame x env; standAt theWindowsPlace)) (hg : (clausesOf c)[k]? = some g) (ha : (g.is_async != 0) = false) : StartRule P w A env c k acc := by
  intro it R s h0 h
  refine codeAny_of_tree ?_
  rw [hd, hu]
  refine wpAny_notedAt ?_
  unfold compStart
  rw [hg]
  show wpAny _ _ (if (g.is_async != 0) = true then _ else _) _ _ s
  rw [ha, if_neg Bool.false_ne_true]
  show wpAny _ _ (ask >>= _) _ _ s
  refine wpAny_bind (wpAny_askSetting ?_)
  dsimp only
  split
  · exact wpAny_bind (wpAny_pure (wpAny_pure ⟨hq _, h0⟩))
  · refine wpAny_bind (wpAny_rule ?_)
    refine wpAny_bind (wpAny_standAt (wpAny_bind (thnF h fun j s' h' => wpAny_pure ⟨hq _, h'⟩)))
section
variable {P : Program} {w : World} {A : Around} {env : Env} {elt t0 i0 t1 i1 t2 i2 : Expr} {f0 f1 f2 : List Expr} {scope : Scope} {pos : Pos} {acc : Value}
theorem sr3_1 : StartRule P w A env (lc3E elt t0 i0 t1 i1 t2 i2 f0 f1 f2 scope pos) 1 acc := sr_of (g := ⟨t1, i1, f1, 0⟩) (fun _ => rfl) (fun _ => rfl) (fun _ => rfl) rfl rfl
theorem sr3_2 : StartRule P w A env (lc3E elt t0 i0 t1 i1 t2 i2 f0 f1 f2 scope pos) 2 acc := sr_of (g := ⟨t2, i2, f2, 0⟩) (fun _ => rfl) (fun _ => rfl) (fun _ => rfl) rfl rfl
theorem sr2_1 : StartRule P w A env (.ListComp elt [⟨t0, i0, f0, 0⟩, ⟨t1, i1, f1, 0⟩] scope pos) 1 acc := sr_of (g := ⟨t1, i1, f1, 0⟩) (fun _ => rfl) (fun _ => rfl) (fun _ => rfl) rfl rfl
end
def bIn (te : TE) (D : Addr) : Bd := fun σ H Nx => te σ H fun y H1 => ∃ acc, H1 D = some (.lst acc) ∧ acc.length < sizeLine ∧ Nx (upd H1 D (.lst (acc ++ [y])))
def bOut (wi : TI) (g : TG) (tt : TT) (vs : List Nat) (B : Bd) : Bd := fun σ H Nx => wi σ H fun J H1 => LpR J g tt B vs σ H1 Nx
theorem wrk_in {X : Cx} {s3 : Shared} {H3 : Hp} {scope : Scope} {ce : Env} {fp0 : List Addr} {us : List Nat} {elt : Expr} {te : TE} {D : Addr} (pe : PE (X.blk s3 H3 scope ce fp0) elt te) : Wrk (X.blk s3 H3 scope ce fp0) us (bIn te D) (rnIn X.prog X.w X.A ce elt (.ref D)) := by
  intro pins s σ H Nx Po I h k
  refine thnF (pe.run _ s σ H _ I h) fun z s1 ⟨y, H1, I1, r1, acc, hD, hz, nx⟩ => ?_
  exact app_ok (X := X.blk s3 H3 scope ce fp0) I1 hD hz r1 fun s2 I2 => k s2 σ _ I2 rfl (fun _ _ _ e => e) nx
theorem wrk_out {X : Cx} {s3 : Shared} {H3 : Hp} {scope : Scope} {ce : Env} {fp0 : List Addr} {us vs : List Nat} {c t1 j1 : Expr} {ifs1 : List Expr} {k : Nat} {acc : Value} {wi : TI} {g : TG} {tt : TT} {B : Bd} {run : Rn} (hc : X.calm = true) (pi : PI (X.blk s3 H3 scope ce fp0) t1 j1 wi)
    (pg : PG (X.blk s3 H3 scope ce fp0) t1 g) (pt : PTs (X.blk s3 H3 scope ce fp0) ifs1 tt) (hr : ∀ it, TurnRule X.prog X.w X.A ce c k t1 ifs1 it acc run) (sr : StartRule X.prog X.w X.A ce c k acc) (hw : Wrk (X.blk s3 H3 scope ce fp0) vs B run) (hv : ∀ i ∈ vs, i ∈ us) :
    Wrk (X.blk s3 H3 scope ce fp0) us (bOut wi g tt vs B) (rnOut X.prog X.w X.A ce c k j1 acc) := by
  intro pins s σ H Nx Po I h kk
  refine thnF (pi.run _ s σ H _ I h) fun xv s1 hx => thnF hx fun itv s2 h2 => ?_
  obtain ⟨it, fp, tn, J, H2, rfl, I2, T, st2, f2, rd⟩ := h2
  have loop := lp_ok (Nx := Nx) hc T pg pt (fun σ' H' s' _ hn b hb => ⟨hn b hb, (f2 b hb).2⟩) (hr it) hw (I2.weak (wipe_length _ _) fun j v e => (wipe_some e).1) st2 (fun b hb => (f2 b hb).1) rd
  have loop' : codeAny (model X.prog X.w) X.A (.compLoop c k (.ref it) acc ce) (fun r s' => match r with
    | .ok _ => Po s'
    | .error _ => False) s2 := codeAny_mono loop fun r s' hr => by
    cases r with
    | error e => exact hr.elim
    | ok f =>
      cases f <;> first | exact hr.elim | skip
      obtain ⟨H', I', _, nx⟩ := hr
      exact kk s' _ H' I' (wipe_length _ _) (fun j v hj e => by rw [wipe_out fun z => hj (hv j z)]; exact e) nx
  exact sr it _ s2 loop' (T.self X.A 0 _ _ _ st2 loop')
end Kj

set_option Elab.async false
set_option linter.all false
set_option maxRecDepth 100000
set_option maxHeartbeats 4000000
/-! Kj32: comprehensions with two and three fors: the rule. -/
namespace Kj
open PySem PySem.Spec PyProof.Rows L2
def tLcN (wi : TI) (g : TG) (tt : TT) (B : Addr → Bd) (us : List Nat) : TE := fun σ H Q => wi σ H fun J H1 => ∀ D, H1 D = none → LpR J g tt (B D) us σ (upd H1 D (.lst [])) fun H' => Q (.ref D) H'
section
variable {X : Cx}
theorem lcN_core {pins : List (Addr × Obj)} {s : Shared} {σ : L2.St} {H : Hp} {Q : VK} {elt tg iter : Expr} {ifs : List Expr} {rest : List Comprehension} {scope : Scope} {own : List (Str × Nat)} {pos pos' : Pos} {wi : TI} {g : TG} {tt : TT} {B : Addr → Bd} {run : Env → Value → Rn} {use : Option (Value → Sem Unit)} {Qf : Value → Shared → Prop}
    (hc : X.calm = true) (hN : X.N.Nodup) (I : Inv X pins σ H s) (hi : PI X tg iter wi) (ok : BlkOk X.N X.env.scope scope own)
    (hg : ∀ (s : Shared) (H : Hp) (C : Addr) (cl : List (Str × Addr)) (fp : List Addr), PG (X.blk s H scope (compEnvC scope cl C X.env) fp) tg g)
    (ht : ∀ (s : Shared) (H : Hp) (C : Addr) (cl : List (Str × Addr)) (fp : List Addr), PTs (X.blk s H scope (compEnvC scope cl C X.env) fp) ifs tt)
    (hr : ∀ (env : Env) (it : Addr) (acc : Value), TurnRule X.prog X.w X.A env (.ListComp elt (⟨tg, iter, ifs, 0⟩ :: rest) scope pos) 0 tg ifs it acc (run env acc))
    (hw : ∀ (s : Shared) (H : Hp) (C : Addr) (cl : List (Str × Addr)) (fp : List Addr) (D : Addr), Wrk (X.blk s H scope (compEnvC scope cl C X.env) fp) (own.map (·.2)) (B D) (run (compEnvC scope cl C X.env) (.ref D)))
    (hs : ∀ x, foldedSetIterable iter X.env x = pure x) (h : tLcN wi g tt B (own.map (·.2)) σ H Q)
    (hRR : ∀ D C s' m H', Inv X pins σ H' s' → Q (.ref D) H' → s'.heap.Ns C m → FpOk X pins H' C → compPost (model X.prog X.w) X.A X.xe use Qf (.ref D) C (.ok .next) s') :
    wpAny (model X.prog X.w) X.A (comprehension (.ListComp elt (⟨tg, iter, ifs, 0⟩ :: rest) scope pos) scope X.env pos' (newList []) false (eval iter X.env) use) Qf X.xe s := by
  have hfr : ∀ y ∈ scope.names, y.2 = .free → ∃ c, X.env.cells.lookup y.1 = some c := fun y hy e => (ok.free y hy e).elim (fun k => I.ok.has _ (.inl k)) fun k => I.ok.has _ (.inr k)
  refine wpAny_comprehension_free (use := use) rfl hs (closure_ok hfr) ok.kind (fun y hy e => by rw [ok.uniq y hy, e]) (thn (hi.run pins s σ H _ I h) fun xv s1 hx => thn hx fun itv s2 h2 => ?_)
  obtain ⟨it, fp, tn, J, H2, rfl, I2, T, st2, f2, q⟩ := h2
  refine wpAny_newObj_type (newEnv_comp ?_) (by show 0 ≤ sizeLine; decide)
  generalize hD : s2.heap.objs.size = D
  have hDn : H2 D = none := I2.hok.fresh (Nat.le_of_eq hD)
  have rd := q D hDn
  generalize e3 : ({ s2 with heap := s2.heap.push { cls := .type "list", data := .seq ([] : List Value).toArray } } : Shared) = s3
  have h3 : s3.heap = s2.heap.push { cls := .type "list", data := .seq ([] : List Value).toArray } := by subst e3; rfl
  have I3 : Inv X pins σ (upd H2 D (.lst [])) s3 := by
    subst e3
    refine I2.laid (t' := s2.toks) (fun b o e => Heap.get?_push_of_some _ e) (Nat.le_of_eq hD) ⟨Nat.zero_le _, [], 0, .nil, ?_⟩
    subst hD
    exact Heap.get?_push_size _ rfl
  have f3 : ∀ b ∈ fp, FpOk X pins (upd H2 D (.lst [])) b ∧ b < s3.heap.objs.size := fun b hb => by
    obtain ⟨o, eo, _⟩ := T.obj _ _ st2 b hb
    have lt := Heap.lt_size eo
    refine ⟨⟨?_, (f2 b hb).2⟩, by rw [h3, Heap.size_push]; exact Nat.lt_succ_of_lt lt⟩
    rw [upd_ne (by rw [← hD]; exact Nat.ne_of_lt lt), (f2 b hb).1]
  have st3 : tn 0 s3.heap := T.keep _ _ _ st2 fun b _ o e => by rw [h3]; exact Heap.get?_push_of_some _ e
  have I4 := block_start I3 ok hN f3
  have pg := hg s3 (upd H2 D (.lst [])) s3.heap.objs.size (cellsFrom (s3.heap.objs.size + 1) scope.names (cloFrom X.env.cells scope.names [])) fp
  have pt := ht s3 (upd H2 D (.lst [])) s3.heap.objs.size (cellsFrom (s3.heap.objs.size + 1) scope.names (cloFrom X.env.cells scope.names [])) fp
  have wk := hw s3 (upd H2 D (.lst [])) s3.heap.objs.size (cellsFrom (s3.heap.objs.size + 1) scope.names (cloFrom X.env.cells scope.names [])) fp D
  show codeAny _ _ (.compStart (.ListComp elt (⟨tg, iter, ifs, 0⟩ :: rest) scope pos) 0 (.ref it) (.ref D) (compEnvC scope (cellsFrom (s3.heap.objs.size + 1) scope.names (cloFrom X.env.cells scope.names [])) s3.heap.objs.size X.env)) (compPost (model X.prog X.w) X.A X.xe use Qf (.ref D) s3.heap.objs.size) { s3 with heap := pushCells (s3.heap.push { cls := .type "dict", data := .dict #[] }) scope.names }
  generalize ec : compEnvC scope (cellsFrom (s3.heap.objs.size + 1) scope.names (cloFrom X.env.cells scope.names [])) s3.heap.objs.size X.env = ce at I4 pg pt wk ⊢
  have cL : ce.locals = s3.heap.objs.size := by subst ec; rfl
  generalize e4 : ({ s3 with heap := pushCells (s3.heap.push { cls := .type "dict", data := .dict #[] }) scope.names } : Shared) = s4 at I4 ⊢
  have st4 : tn 0 s4.heap := T.keep _ _ _ st3 fun b _ o e => by subst e4; exact pushCells_keeps _ _ _ _ (Heap.get?_push_of_some _ e)
  have loop := lp_ok (Nx := fun H' => Q (.ref D) H') hc T pg pt (fun σ' H' s' I' hn b hb => ⟨hn b hb, (I'.ok.exf b hb).1, I'.ok.exfs b hb, .inl hb, fun x c e => (I'.ok.exf b hb).2 x c e, fun p hp => absurd (show p ∈ ([] : List (Addr × Obj)) ++ [] from hp) (by simp)⟩)
    (hr ce it (.ref D)) wk I4 st4 (fun b hb => (f3 b hb).1.1) rd
  have loop' : codeAny (model X.prog X.w) X.A (.compLoop (.ListComp elt (⟨tg, iter, ifs, 0⟩ :: rest) scope pos) 0 (.ref it) (.ref D) ce) (compPost (model X.prog X.w) X.A X.xe use Qf (.ref D) s3.heap.objs.size) s4 := codeAny_mono loop fun r s6 hr => by
    cases r with
    | error e => exact hr.elim
    | ok f =>
      cases f <;> first | exact hr.elim | skip
      obtain ⟨H6, I6, n6, qq⟩ := hr
      have I7 : Inv X pins σ H6 s6 := I3.call' (ch := fp) I6.os I6.base I6.hok I6.bare fun b hb => ⟨(f3 b hb).1.2.2.2.1, (f3 b hb).1.2.1, (f3 b hb).1.2.2.2.2.1, (f3 b hb).1.2.2.2.2.2⟩
      have nC : H6 ce.locals = none := I6.free
      obtain ⟨m, hn, _⟩ := I6.loc
      have hn : s6.heap.Ns ce.locals m := hn
      rw [cL] at nC hn
      exact hRR D s3.heap.objs.size s6 m H6 I7 qq hn (I3.fpOk (Nat.le_refl _) nC)
  exact codeAny_compStart_list loop' (T.self X.A 0 _ _ _ st4 loop')
abbrev fQ (X : Cx) (Q : Cx → Prop) (scope : Scope) : Prop := ∀ (s : Shared) (H : Hp) (C : Addr) (cl : List (Str × Addr)) (fp : List Addr), Q (X.blk s H scope (compEnvC scope cl C X.env) fp)
theorem pe_lc2N {elt tg iter tg1 iter1 : Expr} {ifs ifs1 : List Expr} {scope : Scope} {own : List (Str × Nat)} {vs1 : List Nat} {pos : Pos} {wi wi1 : TI} {g g1 : TG} {tt tt1 : TT} {te : TE} (hc : X.calm = true) (hN : X.N.Nodup) (hi : PI X tg iter wi) (ok : BlkOk X.N X.env.scope scope own) (hv : ∀ i ∈ vs1, i ∈ own.map (·.2))
    (hg : fQ X (fun Y => PG Y tg g) scope) (ht : fQ X (fun Y => PTs Y ifs tt) scope) (hi1 : fQ X (fun Y => PI Y tg1 iter1 wi1) scope) (hg1 : fQ X (fun Y => PG Y tg1 g1) scope) (ht1 : fQ X (fun Y => PTs Y ifs1 tt1) scope) (he : fQ X (fun Y => PE Y elt te) scope)
    (hs : ∀ x, foldedSetIterable iter X.env x = pure x := by intro _; rfl) (hs1 : ∀ env x, foldedSetIterable iter1 env x = pure x := by intro _ _; rfl) :
    PE X (.ListComp elt [⟨tg, iter, ifs, 0⟩, ⟨tg1, iter1, ifs1, 0⟩] scope pos) (tLcN wi g tt (fun D => bOut wi1 g1 tt1 vs1 (bIn te D)) (own.map (·.2))) := by
  refine ⟨fun pins s σ H Q I h => ?_⟩
  rw [eval_ListComp]
  refine lcN_core (run := fun env acc => rnOut X.prog X.w X.A env _ 1 iter1 acc) hc hN I hi ok hg ht (fun env it acc => tr2_0 (hs1 env)) (fun s H C cl fp D => wrk_out hc (hi1 s H C cl fp) (hg1 s H C cl fp) (ht1 s H C cl fp) (fun it => tr2_1) sr2_1 (wrk_in (he s H C cl fp)) hv) hs h fun D C s' m H' I' q hn f => ⟨m, hn, fun h'' sb => ?_⟩
  obtain ⟨a0, a1, a2, a3, a4, a5⟩ := f
  exact ⟨.ref D, H', I'.turned (t' := s'.toks) (fun b o hb e => (sb.2 b hb).trans e) a0 a1 a3 a4 a5, rfl, q⟩
/-- y = [..] with more fors than one -/
theorem ps_setN {i : Nat} {y : Str} {py : Pos} {elt tg iter : Expr} {ifs : List Expr} {rest : List Comprehension} {scope : Scope} {own : List (Str × Nat)} {pos spos : Pos} {wi : TI} {g : TG} {tt : TT} {B : Addr → Bd} {run : Env → Value → Rn}
    (hc : X.calm = true) (hN : X.N.Nodup) (hy : X.N[i]? = some y) (hyl : X.env.scope.names.lookup y = some .local) (hsw : swapsWith (.ListComp elt (⟨tg, iter, ifs, 0⟩ :: rest) scope pos) (some (.Name y py)) spos.line X.env = pure true)
    (hi : PI X tg iter wi) (ok : BlkOk X.N X.env.scope scope own) (hg : fQ X (fun Y => PG Y tg g) scope) (ht : fQ X (fun Y => PTs Y ifs tt) scope)
    (hr : ∀ (env : Env) (it : Addr) (acc : Value), TurnRule X.prog X.w X.A env (.ListComp elt (⟨tg, iter, ifs, 0⟩ :: rest) scope pos) 0 tg ifs it acc (run env acc))
    (hw : ∀ (s : Shared) (H : Hp) (C : Addr) (cl : List (Str × Addr)) (fp : List Addr) (D : Addr), Wrk (X.blk s H scope (compEnvC scope cl C X.env) fp) (own.map (·.2)) (B D) (run (compEnvC scope cl C X.env) (.ref D)))
    (hs : ∀ x, foldedSetIterable iter X.env x = pure x := by intro _; rfl) :
    PS X (.Assign [.Name y py] (.ListComp elt (⟨tg, iter, ifs, 0⟩ :: rest) scope pos) spos) (tAsg (tLcN wi g tt B (own.map (·.2))) (gName i)) := by
  refine ⟨fun pins s σ H D I h => ?_⟩
  rw [exec_Assign_Name_used _ _ _ _ hsw]
  refine wpAny_bind (wpAny_standAt (wpAny_bind ?_))
  have h' : tLcN wi g tt B (own.map (·.2)) σ H (fun x H1 => gName i x σ H1 D.nx) := h
  refine wpAny_bind (thn (lcN_core (pos' := firstIterPos (⟨tg, iter, ifs, 0⟩ :: rest) pos) (use := some (assign (.Name y py) X.env)) (Qf := fun _ s' => SP X pins D .next s') hc hN I hi ok hg ht hr hw hs h' fun L C s' m H' I' q hn f => ?_) fun _ s' hq => wpAny_pure (wpAny_pure hq))
  show wpAny _ _ (assign (.Name y py) X.env (.ref L)) _ _ _
  refine wpAny_assign_Name (store_ok2 (v := V.ref L) I' hN hy (.inl hyl) rfl (fun s2 I2 ⟨a, sb, ha⟩ => ?_) (.inr hyl))
  obtain ⟨b0, b1, b2, b3, b4, b5⟩ := f
  have ne : C ≠ a := ha.elim (fun z => by rw [z]; exact b1) fun z e => b4 y a z e.symm
  exact ⟨m, hn.sameBut sb ne, fun h3 sb3 => ⟨_, H', I2.turned (t' := s2.toks) (fun b o hb e => (sb3.2 b hb).trans e) b0 b1 b3 b4 b5, q⟩⟩
theorem ps_setLc3N {i : Nat} {y : Str} {py : Pos} {elt tg iter tg1 iter1 tg2 iter2 : Expr} {ifs ifs1 ifs2 : List Expr} {scope : Scope} {own : List (Str × Nat)} {vs1 vs2 : List Nat} {pos spos : Pos} {wi wi1 wi2 : TI} {g g1 g2 : TG} {tt tt1 tt2 : TT} {te : TE} (hc : X.calm = true) (hN : X.N.Nodup)
    (hy : X.N[i]? = some y) (hyl : X.env.scope.names.lookup y = some .local) (hsw : swapsWith (.ListComp elt [⟨tg, iter, ifs, 0⟩, ⟨tg1, iter1, ifs1, 0⟩, ⟨tg2, iter2, ifs2, 0⟩] scope pos) (some (.Name y py)) spos.line X.env = pure true)
    (hi : PI X tg iter wi) (ok : BlkOk X.N X.env.scope scope own) (hv : ∀ i ∈ vs1, i ∈ own.map (·.2)) (hv2 : ∀ i ∈ vs2, i ∈ vs1)
    (hg : fQ X (fun Y => PG Y tg g) scope) (ht : fQ X (fun Y => PTs Y ifs tt) scope) (hi1 : fQ X (fun Y => PI Y tg1 iter1 wi1) scope) (hg1 : fQ X (fun Y => PG Y tg1 g1) scope) (ht1 : fQ X (fun Y => PTs Y ifs1 tt1) scope)
    (hi2 : fQ X (fun Y => PI Y tg2 iter2 wi2) scope) (hg2 : fQ X (fun Y => PG Y tg2 g2) scope) (ht2 : fQ X (fun Y => PTs Y ifs2 tt2) scope) (he : fQ X (fun Y => PE Y elt te) scope)
    (hs : ∀ x, foldedSetIterable iter X.env x = pure x := by intro _; rfl) (hs1 : ∀ env x, foldedSetIterable iter1 env x = pure x := by intro _ _; rfl) (hs2 : ∀ env x, foldedSetIterable iter2 env x = pure x := by intro _ _; rfl) :
    PS X (.Assign [.Name y py] (.ListComp elt [⟨tg, iter, ifs, 0⟩, ⟨tg1, iter1, ifs1, 0⟩, ⟨tg2, iter2, ifs2, 0⟩] scope pos) spos) (tAsg (tLcN wi g tt (fun D => bOut wi1 g1 tt1 vs1 (bOut wi2 g2 tt2 vs2 (bIn te D))) (own.map (·.2))) (gName i)) :=
  ps_setN (run := fun env acc => rnOut X.prog X.w X.A env _ 1 iter1 acc) hc hN hy hyl hsw hi ok hg ht (fun env it acc => tr3_0 (hs1 env)) (fun s H C cl fp D => wrk_out hc (hi1 s H C cl fp) (hg1 s H C cl fp) (ht1 s H C cl fp) (fun it => tr3_1 (hs2 _)) sr3_1 (wrk_out hc (hi2 s H C cl fp) (hg2 s H C cl fp) (ht2 s H C cl fp) (fun it => tr3_2) sr3_2 (wrk_in (he s H C cl fp)) hv2) hv) hs
end
end Kj

set_option Elab.async false
set_option linter.all false
set_option maxRecDepth 100000
set_option maxHeartbeats 4000000
/-! Kj33: comprehensions with two and three fors: the readings. -/
namespace Kj
open PySem L2
structure ExtX (D : Addr) (H Hr H' Hr' : Hp) : Prop where
  h : ∀ a o, a ≠ D → H a = some o → H' a = some o
  r : Same Hr Hr'
  s : Same Hr' H'
  n : ∀ a o, Hr' a = some o → Hr a = none → H a = none
theorem Ext.x {D : Addr} {H Hr H' Hr' : Hp} (x : Ext H Hr H' Hr') : ExtX D H Hr H' Hr' := ⟨fun a o _ h => x.h a o h, x.r, x.s, x.n⟩
theorem ExtX.trans {D : Addr} {H Hr H1 Hr1 H2 Hr2 : Hp} {u : HO} (hD : H D = some u) (x : ExtX D H Hr H1 Hr1) (y : ExtX D H1 Hr1 H2 Hr2) (hr : Hr2 D = none) : ExtX D H Hr H2 Hr2 := ⟨fun a o n h => y.h a o n (x.h a o n h), x.r.trans y.r, y.s, fun a o h h' => by
  cases q : Hr1 a with
  | some v => exact x.n a v q h'
  | none =>
    have n : a ≠ D := fun z => by subst z; rw [hr] at h; cases h
    have := y.n a o h q
    cases q2 : H a with
    | none => rfl
    | some v => rw [x.h a v n q2] at this; cases this⟩
def ownAt (ρ : List Slot) (i : Nat) : Bool := match ρ[i]? with | some (.own _) => true | _ => false
def ownOff (r' ρ : List Slot) (vs : List Nat) : Bool := ((List.range r'.length).all fun i => !ownAt r' i || (ownAt ρ i && !vs.contains i)) && noReg r'
def OffD (ρ : List Slot) (σ : St) (D : Addr) : Prop := ∀ (i : Nat) (B : AbsO) (p : Addr), ρ[i]? = some (.own B) → σ[i]? = some (some (.ref p)) → p ≠ D
theorem ownOff_at {r' ρ : List Slot} {vs : List Nat} (h : ownOff r' ρ vs = true) {i : Nat} {B : AbsO} (hi : r'[i]? = some (.own B)) : (∃ B', ρ[i]? = some (.own B')) ∧ i ∉ vs := by
  unfold ownOff at h
  rw [Bool.and_eq_true, List.all_eq_true] at h
  replace h := h.1
  have lt : i < r'.length := (List.getElem?_eq_some_iff.mp hi).1
  have q := h i (List.mem_range.mpr lt)
  have e : ownAt r' i = true := by unfold ownAt; rw [hi]
  rw [e] at q
  simp only [Bool.not_true, Bool.false_or, Bool.and_eq_true, Bool.not_eq_true', List.contains_eq_mem, decide_eq_false_iff_not] at q
  refine ⟨?_, q.2⟩
  have q1 := q.1
  unfold ownAt at q1
  split at q1
  · rename_i B' hB; exact ⟨B', hB⟩
  · cases q1
theorem OffD.tg {r' ρ : List Slot} {vs : List Nat} {σ σ2 : St} {D : Addr} (o : OffD ρ σ D) (h : ownOff r' ρ vs = true) (hw : wipe σ2 vs = wipe σ vs) : OffD r' σ2 D := fun i B p hi hp => by
  obtain ⟨⟨B', h1⟩, h2⟩ := ownOff_at h hi
  refine o i B' p h1 ?_
  rw [← wipe_out h2 (σ := σ), ← hw, wipe_out h2]
  exact hp
theorem OffD.ext {ρ : List Slot} {σ : St} {D : Addr} {H0 H Hr : Hp} (E : EnvOk H0 σ ρ H Hr) (hD : H D = none) : OffD ρ σ D := fun i B p h1 h2 => by
  obtain ⟨q, o, q1, _, _, q4, _⟩ := E.slot i _ h1
  rw [h2] at q1
  cases q1
  exact ne_of_none q4 hD
theorem EnvOk.extX {H0 : Hp} {σ : St} {ρ : List Slot} {H Hr H' Hr' : Hp} {D : Addr} (E : EnvOk H0 σ ρ H Hr) (nr : noReg ρ = true) (x : ExtX D H Hr H' Hr') (o : OffD ρ σ D) (h0 : H0 D = none) : EnvOk H0 σ ρ H' Hr' := by
  refine ⟨fun a u e => x.h a u (ne_of_none e h0) (E.base _ _ e), x.s, E.len, fun i s hs => ?_, E.dis, .nil (noReg_at nr)⟩
  have q := E.slot i s hs
  cases s with
  | no => trivial
  | reg A => trivial
  | dat A => obtain ⟨v, e, a⟩ := q; exact ⟨v, e, A.mono _ _ _ x.r a⟩
  | new A => obtain ⟨v, e, a⟩ := q; exact ⟨v, e, A.mono _ _ _ (mns_mono H0 x.r) a⟩
  | own B =>
    obtain ⟨p, u, e1, e2, e3, e4, e5⟩ := q
    refine ⟨p, u, e1, e2, ?_, x.h _ _ (o i B p hs e1) e4, B.mono _ _ _ _ (mns_mono H0 x.r) e5⟩
    cases z : Hr' p with
    | none => rfl
    | some v => have := x.n p v z e3; rw [e4] at this; cases this
theorem wipeS_own : ∀ {vs : List Nat} {ρ : List Slot} {i : Nat} {B : AbsO}, (wipeS ρ vs)[i]? = some (.own B) → ρ[i]? = some (.own B)
  | [], _, _, _, h => h
  | v :: vs, ρ, i, B, h => by
    unfold wipeS at h
    by_cases e : v = i
    · subst e
      by_cases hl : v < (wipeS ρ vs).length
      · rw [List.getElem?_set_self hl] at h; cases h
      · rw [List.getElem?_eq_none (by rw [List.length_set]; omega)] at h; cases h
    · rw [List.getElem?_set_ne e] at h
      exact wipeS_own h
theorem wipe_own {vs : List Nat} {σ : St} {i : Nat} {p : Addr} (h : (wipe σ vs)[i]? = some (some (.ref p))) : σ[i]? = some (some (.ref p)) := (wipe_some h).1
theorem OffD.wipe {ρ : List Slot} {σ : St} {D : Addr} (o : OffD ρ σ D) (vs : List Nat) : OffD (wipeS ρ vs) (wipe σ vs) D := fun i B p h1 h2 => o i B p (wipeS_own h1) (wipe_own h2)
theorem wipe_wipe (σ : St) (vs : List Nat) : L2.wipe (L2.wipe σ vs) vs = L2.wipe σ vs := by
  have : ∀ (us : List Nat) (τ : St), (∀ v ∈ us, v ∈ vs) → L2.wipe (L2.wipe τ us) vs = L2.wipe τ vs := by
    intro us
    induction us with
    | nil => intro τ _; rfl
    | cons v us ih =>
      intro τ h
      show L2.wipe ((L2.wipe τ us).set v none) vs = _
      rw [wipe_set (h v (by simp)), ih τ fun v hv => h v (by simp [hv])]
  exact this vs σ fun v h => h
/-- B lays ys behind what stands in D's list -/
def DBd (K : PySem.W.Frag) (H0 : Hp) (ρ : List Slot) (f : Bool) (B : Addr → Bd) (ys : List PyData) : Prop :=
  ∀ (D : Addr) (σ : St) (H Hr : Hp) (acc : List V) (Nx : Hp → Prop), EnvOk H0 σ ρ H Hr → OffD ρ σ D → H0 D = none → Hr D = none → H D = some (.lst acc) → acc.length + ys.length ≤ 100000 →
    (∀ H' Hr' zs, ExtX D H Hr H' Hr' → Hr' D = none → H' D = some (.lst (acc ++ zs)) → DpAll K (hp f Hr' H0) zs ys → Nx H') → B D σ H Nx
theorem ExtX.off {D : Addr} {H Hr H' Hr' : Hp} {u : HO} (x : ExtX D H Hr H' Hr') (hr : Hr D = none) (hD : H D = some u) : Hr' D = none := by
  cases z : Hr' D with
  | none => rfl
  | some v => have := x.n D v z hr; rw [hD] at this; cases this
def tot (ys : Nat → List PyData) : Nat → List PyData
  | 0 => []
  | n + 1 => tot ys n ++ ys n
theorem tot_le (ys : Nat → List PyData) : ∀ {n i : Nat}, i ≤ n → (tot ys i).length ≤ (tot ys n).length
  | 0, i, h => by rw [Nat.le_zero.mp h]; exact Nat.le_refl _
  | n + 1, i, h => by
    by_cases e : i = n + 1
    · rw [e]; exact Nat.le_refl _
    · have := tot_le ys (show i ≤ n by omega)
      show _ ≤ (tot ys n ++ ys n).length
      rw [List.length_append]; omega
section
variable {H0 : Hp} {ρ : List Slot} {K : PySem.W.Frag} {f fa fb : Bool} {ta tb te : TE} {α β γ : Type}
theorem dbd_in {d : PyData} (h : DE H0 ρ te f (aD K d)) : DBd K H0 ρ f (fun D => bIn te D) [d] := fun D σ H Hr acc Nx E o h0 hr hD hl k => by
  refine h σ H Hr _ E fun y H1 Hr1 x1 a1 => ⟨acc, x1.h _ _ hD, ?_, ?_⟩
  · simp only [List.length_singleton] at hl
    exact Nat.lt_of_lt_of_le (show acc.length < 100001 by omega) (by rw [sizeLine_eq]; decide)
  · have hr1 := (x1.x (D := D)).off hr hD
    refine k _ Hr1 [y] ⟨fun a u n q => by rw [upd_ne n]; exact x1.h _ _ q, x1.r, fun a u q => ?_, x1.n⟩ hr1 upd_same (.cons a1 .nil)
    rw [upd_ne (fun z => by subst z; rw [hr1] at q; cases q)]
    exact x1.s _ _ q
theorem lp_core {n : Nat} {As : Nat → Abs} {g : TG} {tt : TT} {vs : List Nat} {fw : Bool} {B : Addr → Bd} {b : Nat → Bool} {ys : Nat → List PyData} {J : It} {D : Addr} {σ : St} {H1 Hr1 : Hp} {acc : List V} {Nx : Hp → Prop}
    (hs : ∀ i, i < n → ∃ r', DG H0 (wipeS ρ vs) g fw (As i) r' vs ∧ ownOff r' (wipeS ρ vs) vs = true ∧ DT K H0 r' tt (b i) ∧ (b i = true → DBd K H0 r' f B (ys i)) ∧ (b i = false → ys i = []))
    (E1 : EnvOk H0 σ ρ H1 Hr1) (o : OffD ρ σ D) (h0 : H0 D = none) (hr : Hr1 D = none) (hD : H1 D = some (.lst acc)) (hl : acc.length + (tot ys n).length ≤ 100000) (wk : Wk H0 J n fw As Hr1) (nr : noReg ρ = true)
    (k : ∀ H' Hr' zs, ExtX D H1 Hr1 H' Hr' → Hr' D = none → H' D = some (.lst (acc ++ zs)) → DpAll K (hp f Hr' H0) zs (tot ys n) → Nx H') : LpR J g tt (B D) vs σ H1 Nx := by
  let Pv : Nat → Hp → Prop := fun i G => ∃ Gr zs, ExtX D H1 Hr1 G Gr ∧ Gr D = none ∧ G D = some (.lst (acc ++ zs)) ∧ DpAll K (hp f Gr H0) zs (tot ys i)
  refine ⟨fun i m G => m = n - i ∧ i ≤ n ∧ Pv i G, ⟨n, by simp, Nat.zero_le _, Hr1, [], ⟨fun a u _ q => q, Same.refl _, E1.sub, fun a u q q' => by rw [q] at q'; cases q'⟩, hr, by rw [List.append_nil]; exact hD, .nil⟩, ?_⟩
  rintro i m G ⟨rfl, hi, Gr, zs, x, hGr, hG, dp⟩
  have EG := (E1.extX nr x o h0)
  obtain ⟨w1, w2⟩ := wk G Gr x.r x.s EG.base
  by_cases hlt : i < n
  · obtain ⟨go, yl⟩ := w1 i hlt
    refine .inr ⟨go, Pv (i + 1), fun G' q => ⟨n - (i + 1), by omega, rfl, hlt, q⟩, fun z G2 y => ?_⟩
    obtain ⟨Gr2, x2, a2⟩ := yl z G2 y
    obtain ⟨r', dg, off, dt, d1, d2⟩ := hs i hlt
    refine dg _ G2 Gr2 z _ ((EG.ext x2).wipe vs) a2 fun σ2 E2 ew => ?_
    rw [wipe_wipe] at ew
    refine ⟨ew, dt σ2 G2 Gr2 _ E2 fun G3 Gr3 x3 => ?_⟩
    have x23 := x2.trans x3
    have hGr3 : Gr3 D = none := (x23.x (D := D)).off hGr hG
    have hG3 : G3 D = some (.lst (acc ++ zs)) := x23.h _ _ hG
    have x03 : ExtX D H1 Hr1 G3 Gr3 := x.trans hD x23.x hGr3
    cases hb : b i with
    | false =>
      rw [if_neg Bool.false_ne_true]
      refine ⟨Gr3, zs, x03, hGr3, hG3, ?_⟩
      show DpAll K _ zs (tot ys i ++ ys i)
      rw [d2 hb, List.append_nil]
      exact dpa_mono (hp_mono f H0 x23.r) _ _ dp
    | true =>
      rw [if_pos rfl]
      have lz := dpa_len dp
      have lt := tot_le ys (show i + 1 ≤ n from hlt)
      refine d1 hb D σ2 G3 Gr3 (acc ++ zs) _ (E2.ext x3) ((o.wipe vs).tg off (by rw [ew, wipe_wipe])) h0 hGr3 hG3 ?_ fun G4 Gr4 us x4 hr4 hG4 dp4 => ?_
      · have e : (tot ys (i + 1)).length = (tot ys i).length + (ys i).length := by show (tot ys i ++ ys i).length = _; rw [List.length_append]
        rw [List.length_append]; omega
      · refine ⟨Gr4, zs ++ us, x03.trans hD x4 hr4, hr4, by rw [hG4, List.append_assoc], ?_⟩
        exact dpa_app (dpa_mono (hp_mono f H0 (x23.r.trans x4.r)) _ _ dp) dp4
  · have e' : i = n := by omega
    subst e'
    exact .inl ⟨w2, k G Gr zs x hGr hG dp⟩
theorem dbd_out {wi : TI} {n : Nat} {As : Nat → Abs} {g : TG} {tt : TT} {vs : List Nat} {fw : Bool} {B : Addr → Bd} {b : Nat → Bool} {ys : Nat → List PyData} (hw : DW H0 ρ wi n fw As)
    (hs : ∀ i, i < n → ∃ r', DG H0 (wipeS ρ vs) g fw (As i) r' vs ∧ ownOff r' (wipeS ρ vs) vs = true ∧ DT K H0 r' tt (b i) ∧ (b i = true → DBd K H0 r' f B (ys i)) ∧ (b i = false → ys i = [])) (nr : noReg ρ = true) :
    DBd K H0 ρ f (fun D => bOut wi g tt vs (B D)) (tot ys n) := fun D σ H Hr acc Nx E o h0 hr hD hl k => by
  refine hw σ H Hr _ E fun J H1 Hr1 x1 wk => ?_
  have hr1 := (x1.x (D := D)).off hr hD
  exact lp_core hs (E.ext x1) o h0 hr1 (x1.h _ _ hD) hl wk nr fun H' Hr' zs x e1 e2 dp => k H' Hr' zs ((x1.x (D := D)).trans hD x e1) e1 e2 dp
theorem de_lcN {wi : TI} {n : Nat} {As : Nat → Abs} {g : TG} {tt : TT} {vs : List Nat} {fw : Bool} {B : Addr → Bd} {b : Nat → Bool} {ys : Nat → List PyData} (hw : DW H0 ρ wi n fw As)
    (hs : ∀ i, i < n → ∃ r', DG H0 (wipeS ρ vs) g fw (As i) r' vs ∧ ownOff r' (wipeS ρ vs) vs = true ∧ DT K H0 r' tt (b i) ∧ (b i = true → DBd K H0 r' f B (ys i)) ∧ (b i = false → ys i = []))
    (hl : (tot ys n).length ≤ 100000) (nr : noReg ρ = true) : DE H0 ρ (tLcN wi g tt B vs) f (aD K (.list (tot ys n))) := fun σ H Hr Q E k => by
  refine hw σ H Hr _ E fun J H1 Hr1 x1 wk D hD => ?_
  have E1 := E.ext x1
  have hr1 : Hr1 D = none := x1.s.free hD
  have h0 : H0 D = none := E1.base.free hD
  have o : OffD ρ σ D := OffD.ext E1 hD
  refine lp_core (acc := []) hs (E1.out2 nr o h0 hr1) o h0 hr1 upd_same (by simpa using hl) wk nr fun H' Hr' zs x e1 e2 dp => ?_
  rw [List.nil_append] at e2
  have hx : ∀ a u, H1 a = some u → H' a = some u := fun a u q => x.h a u (ne_of_none q hD) (by rw [upd_ne (ne_of_none q hD)]; exact q)
  refine k (.ref D) H' (upd Hr' D (.lst zs)) (x1.trans ⟨hx, fun a u q => by rw [upd_ne (ne_of_none q hr1)]; exact x.r _ _ q, fun a u q => ?_, fun a u q q' => ?_⟩) (.lst (SqL.of ?_) (dpa_mono (hp_mono f H0 fun a u q => by rw [upd_ne (ne_of_none q e1)]; exact q) _ _ dp))
  · by_cases z : a = D
    · subst z; rw [upd_same] at q; cases q; exact e2
    · rw [upd_ne z] at q; exact x.s _ _ q
  · by_cases z : a = D
    · subst z; exact hD
    · rw [upd_ne z] at q
      have := x.n a u q q'
      rw [upd_ne z] at this
      exact this
  · cases f
    · exact upd_same
    · exact mns_some.mpr ⟨h0, upd_same⟩
/-! by programs -/
def catF {α β : Type} (g : α → Option (List β)) : List α → Option (List β)
  | [] => some []
  | x :: xs => (g x).bind fun ys => (catF g xs).bind fun zs => some (ys ++ zs)
@[irreducible] def lim {β : Type} (xs : List β) : Option (List β) := if xs.length ≤ 100000 then some xs else none
def one1 {β : Type} (y : β) : Option (List β) := some [y]
def DBm (K : PySem.W.Frag) (H0 : Hp) (ρ : List Slot) (f : Bool) (B : Addr → Bd) {β : Type} [Enc β] (m : Option (List β)) : Prop := ∀ ys, m = some ys → DBd K H0 ρ f B (ys.map en)
theorem dbm_in [Enc β] {m : Option β} (h : DM H0 ρ te f (aE K) m) : DBm K H0 ρ f (fun D => bIn te D) (b1 one1 m) := fun ys e => by
  obtain ⟨y, h1, h2⟩ := b1_some e
  cases h2
  exact dbd_in (h y h1)
theorem tot_cons (ys : Nat → List PyData) : ∀ n, tot ys (n + 1) = ys 0 ++ tot (fun i => ys (i + 1)) n
  | 0 => by simp [tot]
  | n + 1 => by
    show tot ys (n + 1) ++ ys (n + 1) = _
    rw [tot_cons ys n, List.append_assoc]
    rfl
theorem catF_at {g : α → Option (List β)} : ∀ {xs : List α} {zs : List β}, catF g xs = some zs → ∀ (i : Nat) (x : α), xs[i]? = some x → ∃ ys, g x = some ys
  | [], _, _, i, x, e => by simp at e
  | y :: xs, zs, h, i, x, e => by
    obtain ⟨ys, h1, h2⟩ := Option.bind_eq_some_iff.mp h
    obtain ⟨us, h3, h4⟩ := Option.bind_eq_some_iff.mp h2
    cases i with
    | zero => simp at e; subst e; exact ⟨ys, h1⟩
    | succ i => exact catF_at h3 i x (by simpa using e)
theorem catF_tot [Enc β] {g : α → Option (List β)} : ∀ {xs : List α} {zs : List β}, catF g xs = some zs → tot (fun i => match xs[i]? with | some x => (match g x with | some ys => ys.map en | none => []) | none => []) xs.length = zs.map en
  | [], zs, h => by cases h; rfl
  | x :: xs, zs, h => by
    obtain ⟨ys, h1, h2⟩ := Option.bind_eq_some_iff.mp h
    obtain ⟨us, h3, h4⟩ := Option.bind_eq_some_iff.mp h2
    cases h4
    rw [List.length_cons, tot_cons]
    have ih := catF_tot h3
    simp only [List.getElem?_cons_zero, List.getElem?_cons_succ, h1]
    rw [ih, List.map_append]
/-- one turn -/
theorem turnN [Enc β] {Ax : α → Abs} {xs : List α} {mt : α → Option Bool} {mb : α → Option (List β)} {zs : List β} {r' : α → List Slot} {g : TG} {tt : TT} {vs : List Nat} {fw : Bool} {B : Addr → Bd}
    (hg : ∀ x, DG H0 (wipeS ρ vs) g fw (Ax x) (r' x) vs) (ho : ∀ x, ownOff (r' x) (wipeS ρ vs) vs = true) (ht : ∀ x, DTm K H0 (r' x) tt (mt x)) (he : ∀ x, DBm K H0 (r' x) f B (mb x))
    (h2 : catF (fun x => iteM (mt x) (mb x) (some [])) xs = some zs) : ∀ i, i < xs.length → ∃ r1, DG H0 (wipeS ρ vs) g fw (match xs[i]? with | some x => Ax x | none => aNo) r1 vs ∧ ownOff r1 (wipeS ρ vs) vs = true ∧
      DT K H0 r1 tt (match xs[i]? with | some x => (mt x).getD false | none => false) ∧ ((match xs[i]? with | some x => (mt x).getD false | none => false) = true → DBd K H0 r1 f B (match xs[i]? with | some x => (match iteM (mt x) (mb x) (some []) with | some ys => ys.map en | none => []) | none => [])) ∧
      ((match xs[i]? with | some x => (mt x).getD false | none => false) = false → (match xs[i]? with | some x => (match iteM (mt x) (mb x) (some []) with | some ys => ys.map en | none => []) | none => []) = []) := by
  intro i hi
  simp only [List.getElem?_eq_getElem hi]
  obtain ⟨ys, hy⟩ := catF_at h2 i xs[i] (List.getElem?_eq_getElem hi)
  obtain ⟨b, hb, hc⟩ := Option.bind_eq_some_iff.mp hy
  refine ⟨r' xs[i], hg _, ho _, ?_, fun z => ?_, fun z => ?_⟩
  · rw [hb]; exact ht _ _ hb
  · rw [hy]
    rw [hb] at z
    simp only [Option.getD_some] at z
    subst z
    exact he _ _ hc
  · rw [hy]
    rw [hb] at z
    simp only [Option.getD_some] at z
    subst z
    cases hc
    rfl
theorem dbm_out [Enc β] {Ax : α → Abs} {mit : Option (List α)} {mt : α → Option Bool} {mb : α → Option (List β)} {r' : α → List Slot} {wi : TI} {g : TG} {tt : TT} {vs : List Nat} {fw : Bool} {B : Addr → Bd} (hw : DWm H0 ρ wi fw Ax mit)
    (hg : ∀ x, DG H0 (wipeS ρ vs) g fw (Ax x) (r' x) vs) (ho : ∀ x, ownOff (r' x) (wipeS ρ vs) vs = true) (ht : ∀ x, DTm K H0 (r' x) tt (mt x)) (he : ∀ x, DBm K H0 (r' x) f B (mb x)) (nr : noReg ρ = true := by rfl) :
    DBm K H0 ρ f (fun D => bOut wi g tt vs (B D)) (b1 (catF fun x => iteM (mt x) (mb x) (some [])) mit) := fun zs e => by
  obtain ⟨xs, h1, h2⟩ := b1_some e
  have q := dbd_out (hw xs h1) (turnN hg ho ht he h2) nr
  rw [catF_tot h2] at q
  exact q
theorem dm_lcN [Enc β] {Ax : α → Abs} {mit : Option (List α)} {mt : α → Option Bool} {mb : α → Option (List β)} {r' : α → List Slot} {wi : TI} {g : TG} {tt : TT} {vs : List Nat} {fw : Bool} {B : Addr → Bd} (hw : DWm H0 ρ wi fw Ax mit)
    (hg : ∀ x, DG H0 (wipeS ρ vs) g fw (Ax x) (r' x) vs) (ho : ∀ x, ownOff (r' x) (wipeS ρ vs) vs = true) (ht : ∀ x, DTm K H0 (r' x) tt (mt x)) (he : ∀ x, DBm K H0 (r' x) f B (mb x)) (nr : noReg ρ = true := by rfl) :
    DM H0 ρ (tLcN wi g tt B vs) f (aE K) (b1 lim (b1 (catF fun x => iteM (mt x) (mb x) (some [])) mit)) := fun zs e => by
  obtain ⟨us, h0, h3⟩ := b1_some e
  obtain ⟨xs, h1, h2⟩ := b1_some h0
  unfold lim at h3
  split at h3
  · rename_i hl
    cases h3
    have q := de_lcN (hw xs h1) (turnN hg ho ht he h2) (by rw [catF_tot h2, List.length_map]; exact hl) nr
    rw [catF_tot h2] at q
    exact q
  · cases h3
end
end Kj

set_option Elab.async false
set_option linter.all false
set_option maxRecDepth 100000
set_option maxHeartbeats 4000000
/-! Kj34: len(set(numbers)), any. -/
namespace Kj
open PySem PySem.Spec PySem.SeqAt PyProof.Rows L2
def tLenSetI (K : PySem.W.Frag) (ta : TE) : TE := fun σ H Q => ta σ H fun x H1 => ∃ (l : Addr) (ns : List Int), x = V.ref l ∧ SqL K H1 l (ns.map V.int) ∧ ns.length < 1000 ∧ Q (.int ((srtI ns).length : Nat)) H1
theorem srtI_lenE {ns ks : List Int} (h : ks.Nodup) (hm : ∀ k, k ∈ ks ↔ k ∈ ns) : ks.length = (srtI ns).length := by
  have h2 : (srtI ns).Nodup := (srtI_pw ns).imp fun h => Int.ne_of_lt h
  exact ((List.perm_ext_iff_of_nodup h h2).mpr fun k => (hm k).trans mem_srtI.symm).length_eq
theorem pe_lenSetI {X : Cx} {K : PySem.W.Frag} {a : Expr} {ta : TE} {p p2 q pos : Pos} (hK : X.K = K) (hc : X.calm = true) (hg : Gl X "len") (hm : X.mg "len" = none) (hg2 : Gl X "set") (hm2 : X.mg "set" = none) (ha : PE X a ta)
    (na : starEach [a] X.env = (false, eval a X.env) :: starEach [] X.env := by rfl) : PE X (.Call (.Name "len" p) [.Call (.Name "set" p2) [a] [] q] [] pos) (tLenSetI K ta) := by
  subst hK
  refine ⟨fun pins s σ H Q I h => ?_⟩
  refine Call_ (ld_blt I hg hm boot_len (callWith_builtin1 (args_cons ?_ rfl) rfl rfl))
  refine Call_ (ld_blt I hg2 hm2 boot_set (callWith_type1 (args_cons (thn (ha.run pins s σ H _ I h) fun v s1 ⟨x, H1, I1, r1, q1⟩ => args_nil ?_) na) na rfl))
  obtain ⟨l, ns, rfl, hq, hl, q1⟩ := q1
  cases r1
  obtain ⟨its, r, pl, hz⟩ := I1.list hq
  refine call_setL ns (I1.ok.hd hc) pl.isList (by simpa using r.ints) (by unfold scanBound; omega) fun G tk c R hc' hkk => args_nil ?_
  obtain ⟨o, es, ep, t, ho, hex, hd, _, hnd, hmem, hsz, hf, hn, _⟩ := R
  have I2 : Inv X pins σ H1 { s1 with heap := G, toks := tk } := I1.kept hkk
  have e : es.size = (srtI ns).length := by
    have := srtI_lenE hnd (ns := ns) fun k => by rw [← hmem k, decide_eq_true_iff]
    rw [← this, List.length_map, Array.length_toList]
  exact call_len_set ho hex hd hf (by rw [hn] <;> omega) ⟨.int ((srtI ns).length : Nat), H1, I2.tok _, ⟨_, by rw [e]⟩, q1⟩
@[irreducible] def lenSetIM (ns : List Int) : Option Int := if ns.length < 1000 then some ((srtI ns).length : Nat) else none
theorem dm_lenSetI {H0 : Hp} {ρ : List Slot} {K : PySem.W.Frag} {fa : Bool} {te : TE} {m : Option (List Int)} (h : DM H0 ρ te fa (aE K) m) : DM H0 ρ (tLenSetI K te) true (aE K) (b1 lenSetIM m) := fun x e σ H Hr Q E k => by
  obtain ⟨ns, h1, h2⟩ := b1_some e
  unfold lenSetIM at h2
  split at h2
  · rename_i hl
    cases h2
    refine h ns h1 σ H Hr _ E fun v H1 Hr1 x1 a1 => ?_
    cases a1 with
    | @lst p ys _ hs hA =>
      have e1 := dpa_intsV hA
      subst e1
      exact ⟨p, ns, rfl, ((hp_sub fa).trans x1.s).seq hs, hl, k _ H1 Hr1 x1 (.int _)⟩
  · cases h2
theorem cr_anyK {X : Cx} {K : PySem.W.Frag} (h : X.K = K) (hc : X.calm = true) : CallR X (.builtin "any") (rAny K) := by subst h; exact cr_any hc
def anyM (bs : List Bool) : Option Bool := some (bs.any id)
section
variable {H0 : Hp} {ρ : List Slot} {K : PySem.W.Frag} {f fa : Bool} {te : TE}
theorem dm_any {m : Option (List Bool)} (h : DM H0 ρ te fa (aE K) m) : DM H0 ρ (tCB (rAny K) (tCons te tNil)) true (aE K) (b1 anyM m) := fun x e σ H Hr Q E k => by
  obtain ⟨bs, h1, h2⟩ := b1_some e
  cases h2
  refine h bs h1 σ H Hr _ E fun v H1 Hr1 x1 a1 => ?_
  cases a1 with
  | @lst p xs _ hs hA =>
    have hA' : DpAll K _ xs (bs.map PyData.bool) := hA
    rw [dpa_bools hA'] at hs
    exact ⟨p, bs, rfl, ((hp_sub fa).trans x1.s).seq hs, k _ H1 Hr1 x1 (.bl _)⟩
end
end Kj

set_option Elab.async false
set_option linter.all false
set_option maxRecDepth 100000
set_option maxHeartbeats 4000000
/-! Kj35: objects whose fields may be the caller's own data; several fields; calls by programs. -/
namespace Kj
open PySem L2
def putA (f : Str) (A : Abs) : List (Str × Abs) → List (Str × Abs)
  | [] => [(f, A)]
  | (g, B) :: r => if g = f then (g, A) :: r else (g, B) :: putA f A r
theorem FAll.put {f : Str} {A : Abs} {v : V} {H : Hp} (a : A.p v H) : ∀ {fas : List (Str × Abs)} {fs : List (Str × V)}, FAll fas fs H → FAll (putA f A fas) (putF f v fs) H
  | _, _, .nil => .cons a .nil
  | _, _, .cons (n := n) h t => by
    unfold putA putF
    by_cases e : n = f
    · rw [if_pos e, if_pos e]; exact .cons a t
    · rw [if_neg e, if_neg e]; exact .cons h (t.put a)
theorem FAll.len {H : Hp} : ∀ {fas : List (Str × Abs)} {fs : List (Str × V)}, FAll fas fs H → fas.length = fs.length
  | _, _, .nil => rfl
  | _, _, .cons _ t => by rw [List.length_cons, List.length_cons, t.len]
section
variable {Gw : WK} {C' : WZ} {H0 : Hp} {ρ ρ' : List Slot} {K : PySem.W.Frag} {f fa fb : Bool} {ta tb tc td te : TE} {α β γ δ ε S S1 R : Type} {A : R → Abs} {B : S → List Slot} {t u w : TS} {C : Addr} {fas : List (Str × Abs)}
/-- self.x = e -/
theorem ds_fldP {Rr : Abs} {i : Nat} {x : Str} {xo dx : Addr} {A1 : Abs} (hi : ρ[i]? = some (.own (oIns xo C dx fas))) (h : DE H0 ρ te true A1) (hc : Cls K C) (hn : NoAttr K C x) (hl : fas.length < 1000) : DS C' H0 ρ (sFld K (tVar i) te x) (fun r => r = ρ.set i (.own (oIns xo C dx (putA x A1 fas)))) Rr := fun σ H Hr D E kn kr kx => by
  refine h σ H Hr _ E fun v H1 Hr1 x1 a1 => ?_
  have E1 := E.ext x1
  obtain ⟨p, o, e1, e2, e3, e4, ep, fs, rfl, q⟩ := E1.slot i _ hi
  exact ⟨.ref p, e1, p, C, dx, fs, rfl, e4, hc, hn, by rw [← q.len]; exact hl, kn _ _ _ Hr1 rfl (E1.wr hi e1 ⟨ep, _, rfl, q.put a1⟩) x1.r⟩
theorem db_fldP {i : Nat} {x : Str} {xo dx : Addr} {Bf : α → Abs} {m : Option α} {k : α → Option (Fl S R)} (hi : ρ[i]? = some (.own (oIns xo C dx fas))) (h : DM H0 ρ te true Bf m) (hc : Cls K C) (hn : NoAttr K C x)
    (hk : ∀ y, DB Gw H0 (ρ.set i (.own (oIns xo C dx (putA x (Bf y) fas)))) u A (k y) B) (hl : Nat.blt fas.length 1000 = true := by rfl) : DB Gw H0 ρ (tSeq (sFld K (tVar i) te x) u) A (b1 k m) B := fun fl e => by
  obtain ⟨y, h1, h2⟩ := b1_some e
  exact ds_sq (ds_fldP hi (h y h1) hc hn (lt_of hl)) (hk y fl h2)
/-- what __init__ promises of an object that keeps what it is given -/
def spIR (S : List Abs → List (Str × Abs) → Prop) (C : Addr) : Sp := fun vs H Q _ => ∃ x dx As fas rest Hr, vs = .ref x :: rest ∧ H x = some (.ins C dx []) ∧ S As fas ∧ Same Hr (rm H x) ∧ AllP As rest Hr ∧
  ∀ H' Hr' fs, Ext (rm H x) Hr (rm H' x) Hr' → H' x = some (.ins C dx fs) → FAll fas fs Hr' → Q .non H'
theorem de_makeR {S : List Abs → List (Str × Abs) → Prop} {As : List Abs} {t : TA} {Ex : XK} (ha : DA H0 ρ t f As) (hs : S As fas) : DE H0 ρ (tMake C (spIR S C) [] Ex t) f (aIns C fas) := fun σ H Hr Q E k => by
  refine ha σ H Hr _ E fun vs H1 Hr1 x1 a1 x dx hx hdx hne => ?_
  rw [List.append_nil]
  have E1 := E.ext x1
  have lift : Same H1 (rm (upd (upd H1 dx (.own x)) x (.ins C dx [])) x) := fun a o q => by
    have n1 : a ≠ x := ne_of_none q hx
    have n2 : a ≠ dx := ne_of_none q hdx
    rw [rm_ne n1, upd_ne n1, upd_ne n2]; exact q
  refine ⟨x, dx, As, fas, vs, hp f Hr1 H0, rfl, upd_same, hs, ((hp_sub f).trans x1.s).trans lift, a1, fun H' Hr' fs xx hx' hf => ⟨rfl, ?_⟩⟩
  obtain ⟨x3, s3⟩ := Ext.sub (E1.base.trans lift) (E1.sub.trans lift) xx
  have hj : joinR Hr1 Hr' x = none := by
    cases q : joinR Hr1 Hr' x with
    | none => rfl
    | some o => have := (rm_some (x3.s _ _ q)).2; exact absurd rfl this
  have up : Same (joinR Hr1 Hr') (upd (joinR Hr1 Hr') x (.ins C dx fs)) := fun a o q => by rw [upd_ne (ne_of_none q hj)]; exact q
  refine k (.ref x) H' (upd (joinR Hr1 Hr') x (.ins C dx fs)) (x1.trans ⟨fun a o q => ?_, x3.r.trans up, fun a o q => ?_, fun a o q q' => ?_⟩) ⟨x, dx, fs, rfl, hp_lay f E1.base hx, hf.mono (s3.trans (hp_mono f H0 up))⟩
  · exact (rm_some (x3.h _ _ (lift _ _ q))).1
  · by_cases e : a = x
    · subst e; rw [upd_same] at q; cases q; exact hx'
    · rw [upd_ne e] at q; exact (rm_some (x3.s _ _ q)).1
  · by_cases e : a = x
    · subst e; exact hx
    · rw [upd_ne e] at q; exact lift.free (x3.n a o q q')
theorem dm_makeR3 {A1 : α → Abs} {B1 : β → Abs} {D1 : δ → Abs} {Ex : XK} {ma : Option α} {mb : Option β} {md : Option δ} {O : γ → List (Str × Abs)} {F : α → β → δ → Option γ} (h1 : DM H0 ρ ta f A1 ma) (h2 : DM H0 ρ tb f B1 mb) (h3 : DM H0 ρ tc f D1 md) :
    DM H0 ρ (tMake C (spIR (si3 A1 B1 D1 O F) C) [] Ex (tCons ta (tCons tb (tCons tc tNil)))) f (fun c => aIns C (O c)) (b3 F ma mb md) := fun x e => by
  obtain ⟨a, b, d, e1, e2, e3, h⟩ := b3_some e
  exact de_makeR (da_consF (h1 _ e1) (da_consF (h2 _ e2) (da_consF (h3 _ e3) da_nilF))) ⟨a, b, d, x, rfl, h, rfl⟩
variable {A1 : α → Abs} {B1 : β → Abs} {D1 : δ → Abs} {E1 : ε → Abs} {C1 : γ → Abs} {Ex : XK} {ma : Option α} {mb : Option β} {md : Option δ} {me : Option ε}
theorem dm_callR2 {F : α → β → Option γ} (h1 : DM H0 ρ ta f A1 ma) (h2 : DM H0 ρ tb f B1 mb) : DM H0 ρ (tCall (spR (sp2 A1 B1 C1 F)) [] Ex (tCons ta (tCons tb tNil))) f C1 (b2 F ma mb) := fun x e => by
  obtain ⟨a, b, e1, e2, h⟩ := b2_some e
  exact de_callR (da_consF (h1 _ e1) (da_consF (h2 _ e2) da_nilF)) ⟨a, b, x, rfl, h, rfl⟩
variable {Cl : Addr} {m : Str} {O : α → List (Str × Abs)}
end
theorem noReg_startN (As : List Abs) (n : Nat) : noReg (As.map Slot.new ++ List.replicate n Slot.no) = true := by
  unfold noReg
  rw [List.all_eq_true]
  intro s hs
  rcases List.mem_append.mp hs with h | h
  · obtain ⟨A, _, rfl⟩ := List.mem_map.mp h; rfl
  · rw [(List.mem_replicate.mp h).2]
theorem EnvOk.consOwnN {H0 H Hr : Hp} {σ : St} {ρ : List Slot} {x : Addr} {o : HO} {B : AbsO} (E : EnvOk H0 σ ρ (rm H x) Hr) (hn : noOwn ρ = true) (nr : noReg ρ = true) (hx : H x = some o) (hB : ∀ G, B.p x o G) : EnvOk H0 (some (.ref x) :: σ) (.own B :: ρ) H Hr := by
  have no : ∀ (i : Nat) (B : AbsO), ρ[i]? ≠ some (.own B) := fun i B h => by
    unfold noOwn at hn
    rw [List.all_eq_true] at hn
    exact Bool.noConfusion (hn _ (List.mem_of_getElem? h))
  have sub : ∀ {G : Hp}, Same G (rm H x) → Same G H ∧ G x = none := fun {G} s => ⟨fun a o q => (rm_some (s _ _ q)).1, s.free rm_self⟩
  refine ⟨(sub E.base).1, (sub E.sub).1, by simp [E.len], fun i u hu => ?_, fun i j p B1 B2 hij hi hj _ _ => ?_, .nil fun i A h => by
    cases i with
    | zero => cases h
    | succ i => exact noReg_at nr i A (by simpa using h)⟩
  · cases i with
    | zero =>
      have e := Option.some.inj hu
      subst e
      exact ⟨x, o, rfl, (sub E.base).2, (sub E.sub).2, hx, hB _⟩
    | succ i =>
      have hu' : ρ[i]? = some u := by simpa using hu
      have q := E.slot i u hu'
      cases u with
      | no => trivial
      | dat A => exact q
      | new A => exact q
      | reg A => trivial
      | own B => exact absurd hu' (no i B)
  · cases i with
    | zero =>
      cases j with
      | zero => exact hij rfl
      | succ j => exact no j B2 (by simpa using hj)
    | succ i => exact no i B1 (by simpa using hi)
theorem noOwn_startN (As : List Abs) (n : Nat) : noOwn (As.map Slot.new ++ List.replicate n Slot.no) = true := by
  unfold noOwn
  rw [List.all_eq_true]
  intro s hs
  rcases List.mem_append.mp hs with h | h
  · obtain ⟨A, _, rfl⟩ := List.mem_map.mp h; rfl
  · rw [(List.mem_replicate.mp h).2]
section
variable {P : Program} {w : World} {K : PySem.W.Frag} {mg : Str → Option Value} {base : Heap}
theorem initR_ok {x qual : Str} {st : Stmt} {f C : Addr} {fd : FuncData} {N ps : List Str} {p0 : Str} {k : Nat} {S : List Abs → List (Str × Abs) → Prop} (F : FnP K x qual st f fd) (Sc : FnScope N (p0 :: ps) (defScope st)) (len : ∀ As fas, S As fas → As.length = ps.length)
    (body : ∀ (cdv : Value) (A : Around) (outer : List Env) (s : Shared) (H : Hp) (E : XK), Room k (A.deeper (PyProof.Rows.envOfC qual (defScope st) s.heap.objs.size f cdv)) →
      ∃ t, PSs (cxOf CX0 P w K mg base N qual (defScope st) f cdv A outer s H E).nox (defBody st) t ∧ ∀ H0 xo dx As fas, S As fas → DS C0 H0 (.own (oIns xo C dx []) :: (As.map Slot.new ++ List.replicate (N.length - (As.length + 1)) Slot.no)) t (fun r => ∃ rest, r = .own (oIns xo C dx fas) :: rest) aNo) : FnOk P w K mg base CX0 (k + 1) f fd (p0 :: ps) (spIR S C) := by
  refine F.ok Sc (fun vs H Q E h => ?_) (fun cdv A outer s H vs Q E hr h => ?_)
  · obtain ⟨x, dx, As, fas, rest, Hr, rfl, _, h1, _, h2, _⟩ := h
    simp [← h2.length, len As fas h1]
  · obtain ⟨x, dx, As, fas, rest, Hr, rfl, hx, h1, hs, h2, h3⟩ := h
    obtain ⟨t, p, d⟩ := body cdv A outer s H E hr
    have e := env_startN hs (n := N.length - (As.length + 1)) h2
    have E1 := e.consOwnN (B := oIns x C dx []) (noOwn_startN _ _) (noReg_startN _ _) hx (fun G => ⟨rfl, [], rfl, .nil⟩)
    refine ⟨t, p.nox, d (mns (rm H x) Hr) x dx As fas h1 _ H Hr _ ?_ (fun ρ' σ' H' Hr' n E' s => ?_) (fun v H' s _ r => r.elim) (KX.no fun _ _ _ _ z => z)⟩
    · unfold L2.start
      rw [List.map_cons, List.length_cons, ← h2.length]
      exact E1
    · obtain ⟨rest', rfl⟩ := n
      obtain ⟨p, o, e1, e2, e3, e4, rfl, fs, rfl, q⟩ := E'.slot 0 _ rfl
      have sH : Same (rm H p) (rm H' p) := fun a o q => by
        have ne := (rm_some q).2
        rw [rm_ne ne]
        cases z : Hr a with
        | some u => have := hs _ _ z; rw [q] at this; cases this; exact E'.sub _ _ (s _ _ z)
        | none => exact E'.base _ _ (mns_some.mpr ⟨z, q⟩)
      refine h3 H' _ fs (Ext.call hs (Same.refl _) sH) e4 (q.mono fun a o q => ?_)
      obtain ⟨q1, q2⟩ := mns_some.mp q
      have ne : a ≠ p := fun z => by subst z; rw [e3] at q2; cases q2
      unfold joinH
      cases z : Hr a with
      | some u => have := s _ _ z; rw [q2] at this; exact this.symm
      | none =>
        refine mns_some.mpr ⟨?_, by rw [rm_ne ne]; exact E'.sub _ _ q2⟩
        cases y : rm H p a with
        | none => rfl
        | some u => rw [mns_some.mpr ⟨z, y⟩] at q1; cases q1
end
end Kj

set_option Elab.async false
set_option linter.all false
set_option maxRecDepth 100000
set_option maxHeartbeats 4000000
/-! Kj36: xs.index(n); a list that is lent for one statement; an odd thing appended. -/
namespace Kj
open PySem L2
def idxI (v : Int) : List Int → Option Nat
  | [] => none
  | x :: xs => if x = v then some 0 else (idxI v xs).map (· + 1)
def idxM (xs : List Int) (v : Int) : Option Int := (idxI v xs).map Int.ofNat
section
variable {Gw : WK} {H0 : Hp} {ρ ρ' : List Slot} {K : PySem.W.Frag} {f fa fb fc g : Bool} {ta tb tc te : TE} {α β γ δ S S1 R : Type} {A : R → Abs} {B : S → List Slot} {t u w : TS}
/-! a list of one's own is lent for one statement -/
def aPin (p : Addr) (A : Abs) : Abs := ⟨fun v H => v = .ref p ∧ A.p v H, fun v _ _ s ⟨e, h⟩ => ⟨e, A.mono _ _ _ s h⟩⟩
/-- nothing but what is new, own, or without an address; the slot i aside -/
inductive NoDat : List Slot → Prop
  | nil : NoDat []
  | no {l : List Slot} : NoDat l → NoDat (.no :: l)
  | new {A : Abs} {l : List Slot} : NoDat l → NoDat (.new A :: l)
  | own {B : AbsO} {l : List Slot} : NoDat l → NoDat (.own B :: l)
theorem NoDat.at : ∀ {l : List Slot}, NoDat l → ∀ (i : Nat) (A : Abs), l[i]? ≠ some (.dat A)
  | _, .nil, i, A, h => by simp at h
  | _, .no t, 0, A, h => by simp at h
  | _, .new t, 0, A, h => by simp at h
  | _, .own t, 0, A, h => by simp at h
  | _, .no t, i + 1, A, h => t.at i A (by simpa using h)
  | _, .new t, i + 1, A, h => t.at i A (by simpa using h)
  | _, .own t, i + 1, A, h => t.at i A (by simpa using h)
end
end Kj
namespace Kj
open PySem L2
end Kj

set_option Elab.async false
set_option linter.all false
set_option maxRecDepth 100000
set_option maxHeartbeats 4000000
/-! Kj37: two fields of rows, all of them one's own; how they are drawn. -/
namespace Kj
open PySem L2
/-! ### what is drawn -/
def insAt (i : Nat) (v : Int) (row : List Int) : List Int := row.take i ++ [v] ++ row.drop i
def fldHome (c w : Int) : Int := if c = 0 then w % 5 / 2 else if c = 1 then w % 4 / 2 else if w % 7 = 1 then 1 else if w % 7 = 4 then 2 else 0
def putRow (w v : Int) (xs : List (List Int)) : List (List Int) :=
  if (xs.getD (w / 35 % xs.length).toNat []).length < 12 then xs.set (w / 35 % xs.length).toNat (insAt (w / 105 % ((xs.getD (w / 35 % xs.length).toNat []).length + 1)).toNat v (xs.getD (w / 35 % xs.length).toNat [])) else xs
def fldStep (c w v : Int) (t : List (List Int) × List (List Int)) : List (List Int) × List (List Int) :=
  if fldHome c w = 0 then (putRow w v t.1, t.2) else if fldHome c w = 1 then (t.1, putRow w v t.2) else t
def fldAll (d : List Int) : Nat → List (List Int) × List (List Int)
  | 0 => (List.replicate (1 + d.getD 0 0 % 3).toNat [], List.replicate (1 + d.getD 1 0 % 3).toNat [])
  | k + 1 => fldStep (d.getD 2 0 % 3) (d.getD (3 + k) 0) k (fldAll d k)
@[irreducible] def f_law_fields (many : Int) (d : List Int) : Option (List (List (List Int))) :=
  if 0 ≤ many ∧ many ≤ 1000 ∧ many + 3 ≤ d.length then some [(fldAll d many.toNat).1, (fldAll d many.toNat).2] else none
theorem fldHome_range (c w : Int) : 0 ≤ fldHome c w ∧ fldHome c w ≤ 2 := by
  unfold fldHome
  split
  · omega
  · split
    · omega
    · split
      · omega
      · split <;> omega
theorem putRow_len (w v : Int) (xs : List (List Int)) : (putRow w v xs).length = xs.length := by
  unfold putRow; split <;> simp
theorem fldAll_len (d : List Int) : ∀ k, (fldAll d k).1.length = (1 + d.getD 0 0 % 3).toNat ∧ (fldAll d k).2.length = (1 + d.getD 1 0 % 3).toNat
  | 0 => by simp [fldAll]
  | k + 1 => by
    obtain ⟨h1, h2⟩ := fldAll_len d k
    unfold fldAll fldStep
    split
    · simp [putRow_len, h1, h2]
    · split <;> simp [putRow_len, h1, h2]
/-! ### the tree -/
def RowsX (H : Hp) (rs : List Addr) (xs : List (List Int)) : Prop := rs.length = xs.length ∧ ∀ (i : Nat) (r : Addr) (x : List Int), rs[i]? = some r → xs[i]? = some x → H r = some (.lst (x.map V.int))
structure Tr2 (H0 Hr H : Hp) (p f0 f1 : Addr) (r0 r1 : List Addr) (x0 x1 : List (List Int)) : Prop where
  hp : H p = some (.lst [.ref f0, .ref f1])
  h0 : H f0 = some (.lst (r0.map .ref))
  h1 : H f1 = some (.lst (r1.map .ref))
  a0 : RowsX H r0 x0
  a1 : RowsX H r1 x1
  nd : (p :: f0 :: f1 :: (r0 ++ r1)).Nodup
  fr : ∀ a ∈ p :: f0 :: f1 :: (r0 ++ r1), H0 a = none ∧ Hr a = none ∧ ∃ o, H a = some o
theorem RowsX.same {H H' : Hp} {rs : List Addr} {xs : List (List Int)} (h : RowsX H rs xs) (s : ∀ r ∈ rs, H' r = H r) : RowsX H' rs xs := ⟨h.1, fun i r x h1 h2 => by rw [s r (List.mem_of_getElem? h1)]; exact h.2 i r x h1 h2⟩
theorem Tr2.ext {H0 Hr H Hr' H' : Hp} {p f0 f1 : Addr} {r0 r1 : List Addr} {x0 x1 : List (List Int)} (t : Tr2 H0 Hr H p f0 f1 r0 r1 x0 x1) (x : Ext H Hr H' Hr') : Tr2 H0 Hr' H' p f0 f1 r0 r1 x0 x1 := by
  refine ⟨x.h _ _ t.hp, x.h _ _ t.h0, x.h _ _ t.h1, ⟨t.a0.1, fun i r y e1 e2 => x.h _ _ (t.a0.2 i r y e1 e2)⟩, ⟨t.a1.1, fun i r y e1 e2 => x.h _ _ (t.a1.2 i r y e1 e2)⟩, t.nd, fun a ha => ?_⟩
  obtain ⟨q1, q2, o, q3⟩ := t.fr a ha
  refine ⟨q1, ?_, o, x.h _ _ q3⟩
  cases z : Hr' a with
  | none => rfl
  | some u => have := x.n a u z q2; rw [q3] at this; cases this
theorem mem_ap {a : Addr} {p f0 f1 : Addr} {r0 r1 : List Addr} : a ∈ p :: f0 :: f1 :: (r0 ++ r1) ↔ a = p ∨ a = f0 ∨ a = f1 ∨ a ∈ r0 ∨ a ∈ r1 := by simp
theorem nd_of {p f0 f1 : Addr} {r0 r1 : List Addr} (h : (p :: f0 :: f1 :: (r0 ++ r1)).Nodup) : p ≠ f0 ∧ p ≠ f1 ∧ f0 ≠ f1 ∧ (∀ r, r ∈ r0 ∨ r ∈ r1 → r ≠ p ∧ r ≠ f0 ∧ r ≠ f1) ∧ (∀ r ∈ r0, r ∉ r1) ∧ r0.Nodup ∧ r1.Nodup := by
  rw [List.nodup_cons, List.nodup_cons, List.nodup_cons, List.nodup_append] at h
  obtain ⟨g1, g2, g3, g4, g5, g6⟩ := h
  simp only [List.mem_cons, List.mem_append, not_or] at g1 g2 g3
  refine ⟨g1.1, g1.2.1, g2.1, fun r hr => ⟨fun z => ?_, fun z => ?_, fun z => ?_⟩, fun r h1 h2 => g6 r h1 r h2 rfl, g4, g5⟩
  · subst z; exact hr.elim g1.2.2.1 g1.2.2.2
  · subst z; exact hr.elim g2.2.1 g2.2.2
  · subst z; exact hr.elim g3.1 g3.2
theorem RowsX.set {H : Hp} {rs : List Addr} {xs : List (List Int)} (h : RowsX H rs xs) (nd : rs.Nodup) {j : Nat} {r : Addr} (hr : rs[j]? = some r) (y : List Int) : RowsX (upd H r (.lst (y.map V.int))) rs (xs.set j y) := by
  refine ⟨by rw [List.length_set]; exact h.1, fun i q x e1 e2 => ?_⟩
  by_cases e : q = r
  · subst e
    have hi : i = j := by
      obtain ⟨l1, k1⟩ := List.getElem?_eq_some_iff.mp e1
      obtain ⟨l2, k2⟩ := List.getElem?_eq_some_iff.mp hr
      exact (List.getElem_inj (h₀ := l1) (h₁ := l2) nd).mp (k1.trans k2.symm)
    subst hi
    have lx : i < xs.length := by rw [← h.1]; exact (List.getElem?_eq_some_iff.mp hr).1
    rw [List.getElem?_set_self lx] at e2
    cases e2
    exact upd_same
  · have hi : j ≠ i := fun z => by subst z; rw [hr] at e1; cases e1; exact e rfl
    rw [List.getElem?_set_ne hi] at e2
    rw [upd_ne e]
    exact h.2 i q x e1 e2
theorem Tr2.set0 {H0 Hr H : Hp} {p f0 f1 : Addr} {r0 r1 : List Addr} {x0 x1 : List (List Int)} (t : Tr2 H0 Hr H p f0 f1 r0 r1 x0 x1) {j : Nat} {r : Addr} (hr : r0[j]? = some r) (y : List Int) : Tr2 H0 Hr (upd H r (.lst (y.map V.int))) p f0 f1 r0 r1 (x0.set j y) x1 := by
  obtain ⟨n1, n2, n3, n4, n5, n6, n7⟩ := nd_of t.nd
  have hm := List.mem_of_getElem? hr
  obtain ⟨m1, m2, m3⟩ := n4 r (.inl hm)
  refine ⟨by rw [upd_ne (Ne.symm m1)]; exact t.hp, by rw [upd_ne (Ne.symm m2)]; exact t.h0, by rw [upd_ne (Ne.symm m3)]; exact t.h1, t.a0.set n6 hr y, t.a1.same fun q hq => upd_ne fun z => by subst z; exact n5 _ hm hq, t.nd, fun a ha => ?_⟩
  obtain ⟨q1, q2, o, q3⟩ := t.fr a ha
  by_cases e : a = r
  · subst e; exact ⟨q1, q2, _, upd_same⟩
  · exact ⟨q1, q2, o, by rw [upd_ne e]; exact q3⟩
theorem Tr2.set1 {H0 Hr H : Hp} {p f0 f1 : Addr} {r0 r1 : List Addr} {x0 x1 : List (List Int)} (t : Tr2 H0 Hr H p f0 f1 r0 r1 x0 x1) {j : Nat} {r : Addr} (hr : r1[j]? = some r) (y : List Int) : Tr2 H0 Hr (upd H r (.lst (y.map V.int))) p f0 f1 r0 r1 x0 (x1.set j y) := by
  obtain ⟨n1, n2, n3, n4, n5, n6, n7⟩ := nd_of t.nd
  have hm := List.mem_of_getElem? hr
  obtain ⟨m1, m2, m3⟩ := n4 r (.inr hm)
  refine ⟨by rw [upd_ne (Ne.symm m1)]; exact t.hp, by rw [upd_ne (Ne.symm m2)]; exact t.h0, by rw [upd_ne (Ne.symm m3)]; exact t.h1, t.a0.same fun q hq => upd_ne fun z => by subst z; exact n5 _ hq hm, t.a1.set n7 hr y, t.nd, fun a ha => ?_⟩
  obtain ⟨q1, q2, o, q3⟩ := t.fr a ha
  by_cases e : a = r
  · subst e; exact ⟨q1, q2, _, upd_same⟩
  · exact ⟨q1, q2, o, by rw [upd_ne e]; exact q3⟩
theorem RowsX.dp {K : PySem.W.Frag} {H : Hp} : ∀ {rs : List Addr} {xs : List (List Int)}, RowsX H rs xs → DpAll K H (rs.map V.ref) (xs.map en)
  | [], [], _ => .nil
  | [], _ :: _, h => by cases h.1
  | _ :: _, [], h => by cases h.1
  | r :: rs, x :: xs, h => .cons (.lst (SqL.of (h.2 0 r x rfl rfl)) (dpa_ints x)) (RowsX.dp ⟨by simpa using h.1, fun i q y e1 e2 => h.2 (i + 1) q y (by simpa using e1) (by simpa using e2)⟩)
theorem RowsX.mns {H0 H : Hp} {rs : List Addr} {xs : List (List Int)} (h : RowsX H rs xs) (f : ∀ r ∈ rs, H0 r = none) : RowsX (mns H H0) rs xs := ⟨h.1, fun i r x e1 e2 => mns_some.mpr ⟨f r (List.mem_of_getElem? e1), h.2 i r x e1 e2⟩⟩
theorem Tr2.dp {K : PySem.W.Frag} {H0 Hr H : Hp} {p f0 f1 : Addr} {r0 r1 : List Addr} {x0 x1 : List (List Int)} (t : Tr2 H0 Hr H p f0 f1 r0 r1 x0 x1) : (aE K [x0, x1]).p (.ref p) (mns H H0) := by
  have f := fun a ha => (t.fr a ha).1
  refine .lst (SqL.of (mns_some.mpr ⟨f p (by simp), t.hp⟩)) (.cons (.lst (SqL.of (mns_some.mpr ⟨f f0 (by simp), t.h0⟩)) ?_) (.cons (.lst (SqL.of (mns_some.mpr ⟨f f1 (by simp), t.h1⟩)) ?_) .nil))
  · exact (t.a0.mns fun r hr => f r (by simp [hr])).dp
  · exact (t.a1.mns fun r hr => f r (by simp [hr])).dp
end Kj

set_option Elab.async false
set_option linter.all false
set_option maxRecDepth 100000
set_option maxHeartbeats 4000000
/-! Kj38: the def that draws two fields. -/
namespace Kj
open PySem L2
section
variable {H0 : Hp} {ρ : List Slot} {K : PySem.W.Frag} {f fa fb : Bool} {ta tb te : TE}
/-- [[] for k in range(n)]: a new list of new empty ones -/
theorem de_empties {i : Nat} {n : Int} (h : DE H0 ρ te fa (aE K n)) (h0 : 0 ≤ n) (hn : n ≤ 1000) (hi : Nat.blt i ρ.length = true) (nr : noReg ρ = true) (σ : St) (H Hr : Hp) (Q : VK) (E : EnvOk H0 σ ρ H Hr)
    (k : ∀ (D : Addr) (rs : List Addr) (H' Hr' : Hp), EnvOk H0 σ ρ H' Hr' → Same H H' → Same Hr Hr' → (∀ a o, Hr' a = some o → Hr a = none → H a = none) → H' D = some (.lst (rs.map .ref)) → RowsX H' rs (List.replicate n.toNat []) → (D :: rs).Nodup → (∀ a ∈ D :: rs, H a = none ∧ Hr' a = none) → Q (.ref D) H') :
    tLc (iRng1 (tCons te tNil)) (gName i) tYes (tLst tNil) [i] σ H Q := by
  refine h σ H Hr _ E fun v H1 Hr1 x1 a1 => ?_
  cases a1
  refine ⟨n, rfl, by omega, by omega, fun D hD => ?_⟩
  have E1 := E.ext x1
  have hr1 : Hr1 D = none := x1.s.free hD
  have hd0 : H0 D = none := E1.base.free hD
  have o : OffD ρ σ D := OffD.ext E1 hD
  let Pv : Nat → Hp → Prop := fun j G => ∃ rs : List Addr, G D = some (.lst (rs.map .ref)) ∧ rs.length = j ∧ (D :: rs).Nodup ∧ (∀ r ∈ rs, G r = some (.lst []) ∧ H1 r = none) ∧ (∀ a u, a ≠ D → H1 a = some u → G a = some u)
  refine ⟨fun j m G => m = n.toNat - j ∧ j ≤ n.toNat ∧ Pv j G, ⟨n.toNat, by simp, Nat.zero_le _, [], upd_same, rfl, by simp, by simp, fun a u ne q => by rw [upd_ne ne]; exact q⟩, ?_⟩
  rintro j m G ⟨rfl, hj, rs, hG, hl, nd, hrs, keep⟩
  have hro : ∀ r ∈ rs, r ≠ D := fun r hr z => by subst z; exact (List.nodup_cons.mp nd).1 hr
  have EG : EnvOk H0 σ ρ G Hr1 := by
    refine E1.extX nr (D := D) ⟨keep, Same.refl _, fun a u q => keep a u (fun z => by subst z; rw [hr1] at q; cases q) (x1.s _ _ q), fun a u q q' => by rw [q] at q'; cases q'⟩ o hd0
  by_cases hlt : j < n.toNat
  · refine .inr ⟨hlt, Pv (j + 1), fun G' q => ⟨n.toNat - (j + 1), by omega, rfl, hlt, q⟩, fun x G2 y => ?_⟩
    obtain ⟨rfl, rfl⟩ := y
    refine ⟨(wipe_set (List.mem_singleton_self i)).trans (wipe_wipe σ [i]), ?_⟩
    unfold tYes
    dsimp only
    rw [if_pos rfl]
    refine ⟨by decide, fun r hr => ?_⟩
    have nD : r ≠ D := fun z => by subst z; rw [hG] at hr; cases hr
    have nrs : r ∉ rs := fun z => by rw [(hrs r z).1] at hr; cases hr
    have nH1 : H1 r = none := by
      cases q : H1 r with
      | none => rfl
      | some u => rw [keep r u nD q] at hr; cases hr
    refine ⟨rs.map .ref, by rw [upd_ne (Ne.symm nD)]; exact hG, ?_, rs ++ [r], by rw [upd_same, List.map_append]; rfl, by rw [List.length_append, hl]; rfl, ?_, fun q hq => ?_, fun a u ne q => ?_⟩
    · rw [List.length_map, hl, sizeLine_eq]; omega
    · rw [List.nodup_cons] at nd ⊢
      refine ⟨?_, ?_⟩
      · rw [List.mem_append]; rintro (z | z)
        · exact nd.1 z
        · exact nD (List.mem_singleton.mp z).symm
      · rw [List.nodup_append]
        exact ⟨nd.2, by simp, fun a ha b hb => by rw [List.mem_singleton.mp hb]; exact fun z => nrs (z ▸ ha)⟩
    · rcases List.mem_append.mp hq with hq1 | hq
      · obtain ⟨g1, g2⟩ := hrs q hq1
        have nqr : q ≠ r := fun z => by subst z; exact nrs hq1
        exact ⟨by rw [upd_ne (hro q hq1), upd_ne nqr]; exact g1, g2⟩
      · rw [List.mem_singleton.mp hq]
        exact ⟨by rw [upd_ne nD, upd_same], nH1⟩
    · rw [upd_ne ne, upd_ne (fun z => by subst z; rw [nH1] at q; cases q)]
      exact keep a u ne q
  · have e' : j = n.toNat := by omega
    subst e'
    refine .inl ⟨Nat.le_refl _, k D rs G Hr1 EG (fun a u q => keep a u (ne_of_none (x1.h _ _ q) hD) (x1.h _ _ q)) x1.r x1.n hG ⟨by rw [hl, List.length_replicate], fun i r x e1 e2 => ?_⟩ nd fun a ha => ?_⟩
    · rw [List.getElem?_replicate] at e2
      split at e2
      · cases e2; exact (hrs r (List.mem_of_getElem? e1)).1
      · cases e2
    · rcases List.mem_cons.mp ha with rfl | ha
      · exact ⟨x1.h.free hD, hr1⟩
      · exact ⟨x1.h.free (hrs a ha).2, x1.s.free (hrs a ha).2⟩
end
def insRd : V → List V → Hp → VK → Prop := fun x vs H Q => ∃ (l : Addr) (xs : List V) (i : Int) (y : V), x = .ref l ∧ vs = [.int i, y] ∧ H l = some (.lst xs) ∧ xs.length < sizeLine ∧ 0 ≤ i ∧ i < 2 ^ 63 ∧ Q .non (upd H l (.lst (xs.take i.toNat ++ [y] ++ xs.drop i.toNat)))
abbrev lenT (K : PySem.W.Frag) (te : TE) : TE := tCB (fun xs H Q => ∃ x n, xs = [x] ∧ LenV K x H n ∧ Q (.int n) H) (tCons te tNil)
abbrev rgT (K : PySem.W.Frag) (j : Int) : TE := tOp (rI0 fun i j => .int (i + j)) (tC (.int 1)) (tOp (rI (fun _ j => 0 < j) fun i j => .int (i % j)) (tOp (rIxL K) (tVar 1) (tC (.int j))) (tC (.int 3)))
abbrev emT (K : PySem.W.Frag) (j : Int) : TE := tLc (iRng1 (tCons (rgT K j) tNil)) (gName 3) tYes (tLst tNil) [3]
abbrev modT (a b : TE) : TE := tOp (rI (fun _ j => 0 < j) fun i j => .int (i % j)) a b
abbrev divT (a b : TE) : TE := tOp (rI CDiv fun i j => .int (i / j)) a b
abbrev cI (i : Int) : TE := tC (.int i)
abbrev drawT (K : PySem.W.Frag) : TE := tOp (rIxL K) (tVar 1) (tOp (rI0 fun i j => .int (i + j)) (cI 3) (tVar 4))
abbrev homeT (K : PySem.W.Frag) : TE := tOp (rIxL K) (tLst (tCons (divT (modT (tVar 5) (cI 5)) (cI 2)) (tCons (divT (modT (tVar 5) (cI 4)) (cI 2)) (tCons (tOp (rIxL K) (tLst (tCons (cI 0) (tCons (cI 1) (tCons (cI 0) (tCons (cI 0) (tCons (cI 2) (tCons (cI 0) (tCons (cI 0) tNil)))))))) (modT (tVar 5) (cI 7))) tNil)))) (modT (tOp (rIxL K) (tVar 1) (cI 2)) (cI 3))
abbrev rowT (K : PySem.W.Frag) : TE := tOp (rIxL K) (tOp (rIxL K) (tVar 2) (tVar 6)) (modT (divT (tVar 5) (cI 35)) (lenT K (tOp (rIxL K) (tVar 2) (tVar 6))))
abbrev insT (K : PySem.W.Frag) : TE := tBM K "list" insRd (tVar 7) (tCons (modT (divT (tVar 5) (cI 105)) (tOp (rI0 fun i j => .int (i + j)) (lenT K (tVar 7)) (cI 1))) (tCons (tVar 4) tNil))
abbrev bodyT (K : PySem.W.Frag) : TS := tSeq (tAsg (drawT K) (gName 5)) (tSeq (tAsg (homeT K) (gName 6)) (tSeq (tIfS (tTest (tOp (rI0 fun i j => .bl (decide (i < j))) (tVar 6) (cI 2)))
  (tSeq (tAsg (rowT K) (gName 7)) (tSeq (tIfS (tTest (tOp (rI0 fun i j => .bl (decide (i < j))) (lenT K (tVar 7)) (cI 12))) (tSeq (tDrop (insT K)) tNext) tNext) tNext)) tNext) tNext))
abbrev fieldsT (K : PySem.W.Frag) : TS := tSeq (tAsg (tLst (tCons (emT K 0) (tCons (emT K 1) tNil))) (gName 2)) (tSeq (tFor (iRng1 (tCons (tVar 0) tNil)) (gName 4) (bodyT K)) (tSeq (tRet (tVar 2)) tNext))
theorem atI_nat {α : Type} {xs : List α} {i : Nat} (h : i < xs.length) : atI xs (i : Int) = some xs[i] := by
  rw [atI_some (by omega) (by omega)]
  rfl
theorem atI_getD {xs : List Int} {i : Nat} (h : i < xs.length) : atI xs (i : Int) = some (xs.getD i 0) := by
  rw [atI_nat h, List.getD_eq_getElem?_getD, List.getElem?_eq_getElem h]; rfl
theorem home_eq {w c : Int} (hc : 0 ≤ c ∧ c < 3) : atI [w % 5 / 2, w % 4 / 2, if w % 7 = 1 then 1 else if w % 7 = 4 then (2 : Int) else 0] c = some (fldHome c w) := by
  have h3 : c = 0 ∨ c = 1 ∨ c = 2 := by omega
  unfold fldHome
  rcases h3 with rfl | rfl | rfl
  · rfl
  · rfl
  · rfl
theorem seven_eq {w : Int} : atI [(0 : Int), 1, 0, 0, 2, 0, 0] (w % 7) = some (if w % 7 = 1 then 1 else if w % 7 = 4 then 2 else 0) := by
  have h : w % 7 = 0 ∨ w % 7 = 1 ∨ w % 7 = 2 ∨ w % 7 = 3 ∨ w % 7 = 4 ∨ w % 7 = 5 ∨ w % 7 = 6 := by omega
  rcases h with h | h | h | h | h | h | h <;> rw [h] <;> rfl
section
variable {H0 : Hp} {K : PySem.W.Frag}
theorem dm_draw {ρ : List Slot} {d : List Int} {v : Nat} {f g : Bool} (h1 : ρ[1]? = some (sl f (aE K d))) (h4 : ρ[4]? = some (sl g (aE K (v : Int)))) (hd : 3 + v < d.length) : DE H0 ρ (drawT K) true (aE K (d.getD (3 + v) 0)) := by
  have q := dm_ixF (dm_var h1) (dm_add (dm_int (i := 3)) (dm_var h4)) (H0 := H0)
  refine q _ ?_
  show atI d (3 + (v : Int)) = _
  rw [show (3 : Int) + (v : Int) = ((3 + v : Nat) : Int) by omega]
  exact atI_getD hd
theorem dm_home {ρ : List Slot} {d : List Int} {w : Int} {f g : Bool} (h1 : ρ[1]? = some (sl f (aE K d))) (h5 : ρ[5]? = some (sl g (aE K w))) (hd : 2 < d.length) : DE H0 ρ (homeT K) true (aE K (fldHome (d.getD 2 0 % 3) w)) := by
  have v5 : DM H0 ρ (tVar 5) true (aE K) (some w) := dm_up (dm_var h5)
  have q := dm_ixF (H0 := H0) (dm_lst (f := true) (dam_cons (dm_div (dm_mod v5 (dm_int (i := 5))) (dm_int (i := 2))) (dam_cons (dm_div (dm_mod v5 (dm_int (i := 4))) (dm_int (i := 2)))
    (dam_cons (dm_ixF (dm_lst (f := true) (dam_cons (dm_int (i := 0)) (dam_cons (dm_int (i := 1)) (dam_cons (dm_int (i := 0)) (dam_cons (dm_int (i := 0)) (dam_cons (dm_int (i := 2)) (dam_cons (dm_int (i := 0)) (dam_cons (dm_int (i := 0)) (dam_nil (α := Int)))))))))) (dm_mod v5 (dm_int (i := 7)))) (dam_nil (α := Int))))))
    (dm_mod (dm_ixF (dm_var h1) (dm_int (i := 2))) (dm_int (i := 3)))
  refine q _ ?_
  have e2 : atI d 2 = some (d.getD 2 0) := atI_getD (i := 2) hd
  simp only [b1_ss, b2_ss, modI, divI, CDiv, e2, consM, shortM, seven_eq, (by decide : (0:Int) < 5), (by decide : (0:Int) < 4), (by decide : (0:Int) < 2), (by decide : (0:Int) < 7), (by decide : (0:Int) < 3), (by decide : (2:Int) < 1073741824), and_self, if_true, List.length_cons, List.length_nil, (by decide : (0 + 1 + 1 + 1 : Nat) ≤ 1000), (by decide : (0 + 1 + 1 + 1 + 1 + 1 + 1 + 1 : Nat) ≤ 1000)]
  exact home_eq ⟨by omega, by omega⟩
theorem dm_rg {ρ : List Slot} {d : List Int} {j : Nat} {f : Bool} (h1 : ρ[1]? = some (sl f (aE K d))) (hd : j < d.length) : DE H0 ρ (rgT K (j : Int)) true (aE K (1 + d.getD j 0 % 3)) := by
  have q := dm_add (H0 := H0) (dm_int (i := 1)) (dm_mod (dm_ixF (dm_var h1) (dm_int (i := (j : Int)))) (dm_int (i := 3)))
  refine q _ ?_
  have e2 : atI d (j : Int) = some (d.getD j 0) := atI_getD hd
  simp only [b2_ss, modI, e2, (by decide : (0:Int) < 3), if_true, addI]
/-- one row of one field is drawn and filled -/
theorem row_ds {σ : St} {G : Hp} {p fa : Addr} {fl : List V} {ra : List Addr} {xa : List (List Int)} {w v home : Int} {k : Nat} {Q : St → Hp → Prop} (hv : v = (k : Int)) (hk : k ≤ 1000)
    (s2 : σ[2]? = some (some (.ref p))) (s4 : σ[4]? = some (some (.int v))) (s5 : σ[5]? = some (some (.int w))) (s6 : σ[6]? = some (some (.int home))) (hl : 7 < σ.length)
    (hp : G p = some (.lst fl)) (hh : atI fl home = some (.ref fa)) (hf : G fa = some (.lst (ra.map .ref))) (hx : RowsX G ra xa) (hn : 0 < xa.length) (hn2 : xa.length < 1000)
    (q0 : ¬ (xa.getD (w / 35 % xa.length).toNat []).length < 12 → ∀ τ, (∀ j, j ≠ 7 → τ[j]? = σ[j]?) → τ.length = σ.length → Q τ G)
    (q1 : ∀ τ j r y, ra[j]? = some r → putRow w v xa = xa.set j y → (∀ j, j ≠ 7 → τ[j]? = σ[j]?) → τ.length = σ.length → Q τ (upd G r (.lst (y.map .int)))) (D : Ends) (hD : D.nx = Q) :
    (tSeq (tAsg (rowT K) (gName 7)) (tSeq (tIfS (tTest (tOp (rI0 fun i j => .bl (decide (i < j))) (lenT K (tVar 7)) (cI 12))) (tSeq (tDrop (insT K)) tNext) tNext) tNext)) D σ G := by
  have lr : ra.length = xa.length := hx.1
  have ix : 0 ≤ w / 35 % (xa.length : Int) ∧ w / 35 % (xa.length : Int) < xa.length := ⟨Int.emod_nonneg _ (by omega), Int.emod_lt_of_pos _ (by omega)⟩
  have hj : (w / 35 % (xa.length : Int)).toNat < xa.length := by omega
  obtain ⟨r, hr⟩ : ∃ r, ra[(w / 35 % (xa.length : Int)).toNat]? = some r := ⟨ra[(w / 35 % (xa.length : Int)).toNat]'(by omega), List.getElem?_eq_getElem _⟩
  have hxr : xa[(w / 35 % (xa.length : Int)).toNat]? = some (xa.getD (w / 35 % xa.length).toNat []) := by rw [List.getD_eq_getElem?_getD, List.getElem?_eq_getElem hj]; rfl
  have hrow := hx.2 _ _ _ hr hxr
  generalize hy : xa.getD (w / 35 % xa.length).toNat [] = y at q0 hxr hrow
  have hat : atI (ra.map V.ref) (w / 35 % (xa.length : Int)) = some (.ref r) := by
    have : atI (ra.map V.ref) (((w / 35 % (xa.length : Int)).toNat : Nat) : Int) = some (.ref r) := by
      rw [atI_nat (by rw [List.length_map]; omega), List.getElem_map]
      rw [List.getElem?_eq_getElem (by omega)] at hr
      cases hr; rfl
    rwa [Int.toNat_of_nonneg ix.1] at this
  -- the row
  refine ⟨.ref p, s2, .int home, s6, p, fl, home, .ref fa, rfl, rfl, SqL.of hp, hh, ?_⟩
  refine ⟨.int w, s5, w, 35, rfl, rfl, ⟨by decide, by decide⟩, ?_⟩
  refine ⟨.ref p, s2, .int home, s6, p, fl, home, .ref fa, rfl, rfl, SqL.of hp, hh, .ref fa, (ra.map V.ref).length, rfl, .inl ⟨_, SqL.of hf, rfl⟩, ?_⟩
  refine ⟨w / 35, _, rfl, rfl, by rw [List.length_map]; omega, ?_⟩
  rw [List.length_map, lr]
  refine ⟨fa, _, _, .ref r, rfl, rfl, SqL.of hf, hat, ?_⟩
  have t7 : ∀ j, j ≠ 7 → (σ.set 7 (some (.ref r)))[j]? = σ[j]? := fun j h => List.getElem?_set_ne (Ne.symm h)
  have u7 : (σ.set 7 (some (V.ref r)))[7]? = some (some (.ref r)) := List.getElem?_set_self hl
  have u4 := (t7 4 (by decide)).trans s4
  have u5 := (t7 5 (by decide)).trans s5
  refine ⟨.ref r, u7, .ref r, (y.map V.int).length, rfl, .inl ⟨_, SqL.of hrow, rfl⟩, ((y.map V.int).length : Int), 12, rfl, rfl, _, rfl, ?_⟩
  rw [List.length_map]
  by_cases hlt : y.length < 12
  · have e1 : decide ((y.length : Int) < 12) = true := decide_eq_true (by omega)
    rw [e1]; dsimp only; rw [if_pos rfl]
    refine ⟨.ref r, u7, tyL hrow, ?_⟩
    refine ⟨.int w, u5, w, 105, rfl, rfl, ⟨by decide, by decide⟩, ?_⟩
    refine ⟨.ref r, u7, .ref r, (y.map V.int).length, rfl, .inl ⟨_, SqL.of hrow, rfl⟩, ((y.map V.int).length : Int), 1, rfl, rfl, ?_⟩
    rw [List.length_map]
    refine ⟨w / 105, (y.length : Int) + 1, rfl, rfl, by omega, ?_⟩
    have i1 : 0 ≤ w / 105 % ((y.length : Int) + 1) ∧ w / 105 % ((y.length : Int) + 1) < (y.length : Int) + 1 := ⟨Int.emod_nonneg _ (by omega), Int.emod_lt_of_pos _ (by omega)⟩
    refine ⟨.int v, u4, r, y.map V.int, w / 105 % ((y.length : Int) + 1), .int v, rfl, rfl, hrow, by rw [List.length_map, sizeLine_eq]; omega, i1.1, by omega, ?_⟩
    have e2 : (y.map V.int).take (w / 105 % ((y.length : Int) + 1)).toNat ++ [V.int v] ++ (y.map V.int).drop (w / 105 % ((y.length : Int) + 1)).toNat = (insAt (w / 105 % ((y.length : Int) + 1)).toNat v y).map V.int := by
      unfold insAt; simp only [List.map_append, List.map_take, List.map_drop, List.map_cons, List.map_nil]
    rw [e2]
    show D.nx _ _
    rw [hD]
    refine q1 _ _ r _ hr ?_ t7 (by simp)
    unfold putRow
    rw [hy, if_pos hlt]
  · have e1 : decide ((y.length : Int) < 12) = false := decide_eq_false (by omega)
    rw [e1]; dsimp only; rw [if_neg Bool.false_ne_true]
    show D.nx _ _
    rw [hD]
    exact q0 hlt _ t7 (by simp)
theorem seqAsg {te : TE} {i : Nat} {u : TS} {D : Ends} {σ : St} {H : Hp} (h : te σ H fun v H1 => u D (σ.set i (some v)) H1) : tSeq (tAsg te (gName i)) u D σ H := h
theorem lst2 {t1 t2 : TE} {σ : St} {H : Hp} {Q : VK} (h : t1 σ H fun x H1 => t2 σ H1 fun y H2 => 2 ≤ sizeLine ∧ ∀ p, H2 p = none → Q (.ref p) (upd H2 p (.lst [x, y]))) : tLst (tCons t1 (tCons t2 tNil)) σ H Q := h
abbrev rhoF (K : PySem.W.Frag) (many : Int) (d : List Int) : List Slot := [.dat (aE K many), .dat (aE K d), .no, .no, .no, .no, .no, .no]
theorem fields_ds {many : Int} {d : List Int} (h0 : 0 ≤ many) (h1 : many ≤ 1000) (hd : many + 3 ≤ d.length) : DS C0 H0 (rhoF K many d) (fieldsT K) (fun _ => False) (aE K [(fldAll d many.toNat).1, (fldAll d many.toNat).2]) := fun σ H Hr D E kn kr kx => by
  have rg0 : DE H0 (rhoF K many d) (rgT K 0) true (aE K (1 + d.getD 0 0 % 3)) := dm_rg (j := 0) (f := false) rfl (by omega)
  have rg1 : DE H0 (rhoF K many d) (rgT K 1) true (aE K (1 + d.getD 1 0 % 3)) := dm_rg (j := 1) (f := false) rfl (by omega)
  refine seqAsg (lst2 (t1 := emT K 0) (t2 := emT K 1) ?_)
  refine de_empties (i := 3) rg0 (by omega) (by omega) rfl rfl σ H Hr _ E fun D0 rs0 H1 Hr1 E1 s1 sr1 n1 hD0 hx0 nd0 fr0 => ?_
  refine de_empties (i := 3) rg1 (by omega) (by omega) rfl rfl σ H1 Hr1 _ E1 fun D1 rs1 H2 Hr2 E2 s2 sr2 n2 hD1 hx1 nd1 fr1 => ?_
  refine ⟨(show 2 ≤ sizeLine by decide), fun p hp => ?_⟩
  have up : Same H2 (upd H2 p (.lst [.ref D0, .ref D1])) := fun a u q => by rw [upd_ne (ne_of_none q hp)]; exact q
  have in1 : ∀ a ∈ D0 :: rs0, ∃ o, H1 a = some o := fun a ha => by
    rcases List.mem_cons.mp ha with rfl | ha
    · exact ⟨_, hD0⟩
    · obtain ⟨i, hi, e⟩ := List.getElem_of_mem ha
      exact ⟨_, hx0.2 i a ((List.replicate _ [])[i]'(by rw [← hx0.1]; exact hi)) (by rw [List.getElem?_eq_getElem hi, e]) (List.getElem?_eq_getElem _)⟩
  have in2 : ∀ a ∈ D1 :: rs1, ∃ o, H2 a = some o := fun a ha => by
    rcases List.mem_cons.mp ha with rfl | ha
    · exact ⟨_, hD1⟩
    · obtain ⟨i, hi, e⟩ := List.getElem_of_mem ha
      exact ⟨_, hx1.2 i a ((List.replicate _ [])[i]'(by rw [← hx1.1]; exact hi)) (by rw [List.getElem?_eq_getElem hi, e]) (List.getElem?_eq_getElem _)⟩
  have dj : ∀ a, a ∈ D0 :: rs0 → a ∉ D1 :: rs1 := fun a ha hb => by
    obtain ⟨o, ho⟩ := in1 a ha
    rw [(fr1 a hb).1] at ho; cases ho
  have pn : ∀ a, (a ∈ D0 :: rs0 ∨ a ∈ D1 :: rs1) → a ≠ p := fun a ha z => by
    subst z
    rcases ha with ha | ha
    · obtain ⟨o, ho⟩ := in1 a ha
      rw [s2 _ _ ho] at hp; cases hp
    · obtain ⟨o, ho⟩ := in2 a ha
      rw [ho] at hp; cases hp
  have T : Tr2 H0 Hr2 (upd H2 p (.lst [.ref D0, .ref D1])) p D0 D1 rs0 rs1 (fldAll d 0).1 (fldAll d 0).2 := by
    refine ⟨upd_same, up _ _ (s2 _ _ hD0), up _ _ hD1, ⟨hx0.1, fun i r x e1 e2 => up _ _ (s2 _ _ (hx0.2 i r x e1 e2))⟩, ⟨hx1.1, fun i r x e1 e2 => up _ _ (hx1.2 i r x e1 e2)⟩, ?_, fun a ha => ?_⟩
    · have a1 : p ∉ D0 :: D1 :: (rs0 ++ rs1) := fun z => by
        simp only [List.mem_cons, List.mem_append] at z
        rcases z with z | z | z | z
        · exact pn p (.inl (by simp [z])) rfl
        · exact pn p (.inr (by simp [z])) rfl
        · exact pn p (.inl (by simp [z])) rfl
        · exact pn p (.inr (by simp [z])) rfl
      rw [List.nodup_cons] at nd0 nd1 ⊢
      refine ⟨a1, ?_⟩
      rw [List.nodup_cons]
      refine ⟨fun z => ?_, ?_⟩
      · simp only [List.mem_cons, List.mem_append] at z
        rcases z with z | z | z
        · exact dj D0 (by simp) (by simp [z])
        · exact nd0.1 z
        · exact dj D0 (by simp) (by simp [z])
      · rw [List.nodup_cons]
        refine ⟨fun z => ?_, ?_⟩
        · rcases List.mem_append.mp z with z | z
          · exact dj D1 (by simp [z]) (by simp)
          · exact nd1.1 z
        · rw [List.nodup_append]
          exact ⟨nd0.2, nd1.2, fun a ha b hb z => by subst z; exact dj a (by simp [ha]) (by simp [hb])⟩
    · have old : ∀ a, H a = none → H0 a = none := fun a q => E.base.free q
      rcases mem_ap.mp ha with rfl | rfl | rfl | ha | ha
      · exact ⟨E2.base.free hp, E2.sub.free hp, _, upd_same⟩
      · obtain ⟨q1, q2⟩ := fr0 a (by simp)
        refine ⟨old _ q1, ?_, _, up _ _ (s2 _ _ hD0)⟩
        cases z : Hr2 a with
        | none => rfl
        | some u => have := n2 a u z q2; rw [hD0] at this; cases this
      · obtain ⟨q1, q2⟩ := fr1 a (by simp)
        exact ⟨E1.base.free q1, q2, _, up _ _ hD1⟩
      · obtain ⟨q1, q2⟩ := fr0 a (by simp [ha])
        obtain ⟨o, ho⟩ := in1 a (by simp [ha])
        refine ⟨old _ q1, ?_, _, up _ _ (s2 _ _ ho)⟩
        cases z : Hr2 a with
        | none => rfl
        | some u => have := n2 a u z q2; rw [ho] at this; cases this
      · obtain ⟨q1, q2⟩ := fr1 a (by simp [ha])
        obtain ⟨o, ho⟩ := in2 a (by simp [ha])
        exact ⟨E1.base.free q1, q2, o, up _ _ ho⟩
  have E3 : EnvOk H0 (σ.set 2 (some (.ref p))) (rhoF K many d) (upd H2 p (.lst [.ref D0, .ref D1])) Hr2 := (E2.back up).setN 2 _
  have hl8 : σ.length = 8 := E.len
  have e2 : (σ.set 2 (some (V.ref p)))[2]? = some (some (.ref p)) := List.getElem?_set_self (by rw [hl8]; decide)
  -- the loop
  refine (de_var (A := aE K many) rfl : DE H0 (rhoF K many d) (tVar 0) false (aE K many)) _ _ _ _ E3 fun v H3 Hr3 x3 a3 => ?_
  cases a3
  refine ⟨many, rfl, by omega, by omega, for_range (lo := 0) (n := many.toNat) (fun k τ G => ∃ Gr, EnvOk H0 τ (rhoF K many d) G Gr ∧ Same Hr Gr ∧ τ[2]? = some (some (.ref p)) ∧ Tr2 H0 Gr G p D0 D1 rs0 rs1 (fldAll d k).1 (fldAll d k).2)
    ⟨Hr3, E3.ext x3, (sr1.trans sr2).trans x3.r, e2, T.ext x3⟩ ?_ ?_⟩
  · rintro k τ G hk ⟨Gr, EG, sG, t2, TG⟩
    rw [Int.zero_add]
    have lt : τ.length = 8 := EG.len
    have F4 := EG.set (i := 4) (f := true) (A := aE K (k : Int)) (v := .int k) (lt_of (by rfl)) (Dp.int _)
    have g2 : (τ.set 4 (some (V.int k)))[2]? = some (some (.ref p)) := by rw [List.getElem?_set_ne (by decide)]; exact t2
    refine dm_draw (v := k) (f := false) (g := true) rfl rfl (by omega) _ _ _ _ F4 fun v5 H5 Hr5 x5 a5 => ?_
    cases a5
    have F5 := (F4.ext x5).set (i := 5) (f := true) (A := aE K (d.getD (3 + k) 0)) (v := .int (d.getD (3 + k) 0)) (lt_of (by rfl)) (Dp.int _)
    refine dm_home (f := false) (g := true) rfl rfl (by omega) _ _ _ _ F5 fun v6 H6 Hr6 x6 a6 => ?_
    cases a6
    have F6 := (F5.ext x6).set (i := 6) (f := true) (A := aE K (fldHome (d.getD 2 0 % 3) (d.getD (3 + k) 0))) (v := .int (fldHome (d.getD 2 0 % 3) (d.getD (3 + k) 0))) (lt_of (by rfl)) (Dp.int _)
    have T6 := (TG.ext x5).ext x6
    generalize hτ : List.set (List.set (τ.set 4 (some (V.int k))) 5 (some (V.int (d.getD (3 + k) 0)))) 6 (some (V.int (fldHome (d.getD 2 0 % 3) (d.getD (3 + k) 0)))) = τ6 at F6
    have l6 : τ6.length = 8 := by rw [← hτ]; simp [lt]
    have w2 : τ6[2]? = some (some (.ref p)) := by rw [← hτ, List.getElem?_set_ne (by decide), List.getElem?_set_ne (by decide)]; exact g2
    have w4 : τ6[4]? = some (some (.int k)) := by rw [← hτ, List.getElem?_set_ne (by decide), List.getElem?_set_ne (by decide), List.getElem?_set_self (by rw [lt]; decide)]
    have w5 : τ6[5]? = some (some (.int (d.getD (3 + k) 0))) := by rw [← hτ, List.getElem?_set_ne (by decide), List.getElem?_set_self (by simp [lt])]
    have w6 : τ6[6]? = some (some (.int (fldHome (d.getD 2 0 % 3) (d.getD (3 + k) 0)))) := by rw [← hτ, List.getElem?_set_self (by simp [lt])]
    generalize hw : d.getD (3 + k) 0 = w at *
    have hr := fldHome_range (d.getD 2 0 % 3) w
    have sG6 : Same Hr Hr6 := sG.trans (x5.r.trans x6.r)
    obtain ⟨ln0, ln1⟩ := fldAll_len d k
    have fin : ∀ {τ' : St} {G' : Hp} {X : List (List Int) × List (List Int)}, X = fldAll d (k + 1) → (∀ j, j ≠ 7 → τ'[j]? = τ6[j]?) → τ'.length = τ6.length → (∀ a, H0 a = none ∧ Hr6 a = none ∨ G' a = H6 a) → Tr2 H0 Hr6 G' p D0 D1 rs0 rs1 X.1 X.2 →
        ∃ Gr, EnvOk H0 τ' (rhoF K many d) G' Gr ∧ Same Hr Gr ∧ τ'[2]? = some (some (.ref p)) ∧ Tr2 H0 Gr G' p D0 D1 rs0 rs1 (fldAll d (k + 1)).1 (fldAll d (k + 1)).2 := fun {τ' G' X} hX hj hl hG hT => by
      subst hX
      refine ⟨Hr6, ⟨fun a u q => ?_, fun a u q => ?_, by rw [hl, l6]; rfl, fun i s hs => ?_, fun i j q B B' hij hi _ _ _ => ?_, .nil (noReg_at rfl)⟩, sG6, by rw [hj 2 (by decide)]; exact w2, hT⟩
      · rcases hG a with h | h
        · rw [h.1] at q; cases q
        · rw [h]; exact F6.base _ _ q
      · rcases hG a with h | h
        · rw [h.2] at q; cases q
        · rw [h]; exact F6.sub _ _ q
      · match i, hs with
        | 0, hs => cases hs; have := F6.slot 0 _ rfl; unfold SlotOk at this ⊢; rw [hj 0 (by decide)]; exact this
        | 1, hs => cases hs; have := F6.slot 1 _ rfl; unfold SlotOk at this ⊢; rw [hj 1 (by decide)]; exact this
        | 2, hs | 3, hs | 4, hs | 5, hs | 6, hs | 7, hs => cases hs; trivial
        | n + 8, hs => cases hs
      · match i, hi with
        | 0, hi | 1, hi | 2, hi | 3, hi | 4, hi | 5, hi | 6, hi | 7, hi => cases hi
        | n + 8, hi => cases hi
    have offR : ∀ {r : Addr}, (r ∈ rs0 ∨ r ∈ rs1) → ∀ (o : HO) a, H0 a = none ∧ Hr6 a = none ∨ upd H6 r o a = H6 a := fun {r} hm o a => by
      by_cases z : a = r
      · subst z
        obtain ⟨q1, q2, _⟩ := T6.fr a (by rcases hm with h | h <;> simp [h])
        exact .inl ⟨q1, q2⟩
      · exact .inr (upd_ne z)
    subst hτ
    refine ⟨.int _, w6, _, 2, rfl, rfl, _, rfl, ?_⟩
    dsimp only
    by_cases hlt : fldHome (d.getD 2 0 % 3) w < 2
    · rw [decide_eq_true hlt, if_pos rfl]
      have h01 : fldHome (d.getD 2 0 % 3) w = 0 ∨ fldHome (d.getD 2 0 % 3) w = 1 := by omega
      rcases h01 with h | h
      · have hstep : ∀ X, putRow w k (fldAll d k).1 = X → (X, (fldAll d k).2) = fldAll d (k + 1) := fun X hX => by
          show _ = fldStep _ _ _ _
          rw [hw]; unfold fldStep; rw [if_pos h, hX]
        refine row_ds (K := K) (p := p) (fa := D0) (xa := (fldAll d k).1) (v := k) rfl (by omega) w2 w4 w5 w6 (by rw [l6]; decide) T6.hp (by rw [h]; rfl) T6.h0 T6.a0 (by omega) (by omega) (fun hn τ h1 h2 => ?_) (fun τ j r y hr hy h1 h2 => ?_) _ rfl
        · exact fin (hstep _ (by unfold putRow; rw [if_neg hn])) h1 h2 (fun a => .inr rfl) T6
        · exact fin (hstep _ hy) h1 h2 (offR (.inl (List.mem_of_getElem? hr)) _) (T6.set0 hr y)
      · have hstep : ∀ X, putRow w k (fldAll d k).2 = X → ((fldAll d k).1, X) = fldAll d (k + 1) := fun X hX => by
          show _ = fldStep _ _ _ _
          rw [hw]; unfold fldStep; rw [if_neg (by omega), if_pos h, hX]
        refine row_ds (K := K) (p := p) (fa := D1) (xa := (fldAll d k).2) (v := k) rfl (by omega) w2 w4 w5 w6 (by rw [l6]; decide) T6.hp (by rw [h]; rfl) T6.h1 T6.a1 (by omega) (by omega) (fun hn τ h1 h2 => ?_) (fun τ j r y hr hy h1 h2 => ?_) _ rfl
        · exact fin (hstep _ (by unfold putRow; rw [if_neg hn])) h1 h2 (fun a => .inr rfl) T6
        · exact fin (hstep _ hy) h1 h2 (offR (.inr (List.mem_of_getElem? hr)) _) (T6.set1 hr y)
    · rw [decide_eq_false hlt, if_neg Bool.false_ne_true]
      refine fin (X := fldAll d k) ?_ (fun _ _ => rfl) rfl (fun a => .inr rfl) T6
      show _ = fldStep _ _ _ _
      rw [hw]; unfold fldStep; rw [if_neg (by omega), if_neg (by omega)]
  · rintro τ G ⟨Gr, EG, sG, t2, TG⟩
    refine ⟨.ref p, t2, kr (.ref p) G EG.base (sG.trans EG.sub) ?_⟩
    exact TG.dp
end
end Kj

set_option Elab.async false
set_option linter.all false
set_option maxRecDepth 100000
set_option maxHeartbeats 4000000
/-! KjM0: how programs in Option are reckoned with. -/
namespace Kj
open PySem L2
theorem divI_pos {i j : Int} (h : 0 < j) (h2 : j < 1073741824) : divI i j = some (i / j) := by unfold divI; rw [if_pos ⟨h, h2⟩]
theorem modI_pos {i j : Int} (h : 0 < j) : modI i j = some (i % j) := by unfold modI; rw [if_pos h]
theorem mulI_l {i j : Int} (h : -18446744073709551616 < i) (h2 : i < 18446744073709551616) : mulI i j = some (i * j) := by unfold mulI; exact if_pos (Or.inl ⟨by simpa using h, by simpa using h2⟩)
theorem addI_eq {i j : Int} : addI i j = some (i + j) := Eq.trans rfl rfl
theorem subI_eq {i j : Int} : subI i j = some (i - j) := Eq.trans rfl rfl
theorem negI_eq {i : Int} : negI i = some (-i) := Eq.trans rfl rfl
theorem ltI_eq {i j : Int} : ltI i j = some (decide (i < j)) := Eq.trans rfl rfl
theorem leI_eq {i j : Int} : leI i j = some (decide (i ≤ j)) := Eq.trans rfl rfl
theorem gtI_eq {i j : Int} : gtI i j = some (decide (j < i)) := Eq.trans rfl rfl
theorem geI_eq {i j : Int} : geI i j = some (decide (j ≤ i)) := Eq.trans rfl rfl
theorem eqM_eq {α : Type} [DecidableEq α] {x y : α} : eqM x y = some (decide (x = y)) := Eq.trans rfl rfl
theorem neM_eq {α : Type} [DecidableEq α] {x y : α} : neM x y = some (!decide (x = y)) := Eq.trans rfl rfl
theorem inM_eq {α : Type} [DecidableEq α] {x : α} {xs : List α} : inM x xs = some (decide (x ∈ xs)) := Eq.trans rfl rfl
theorem notInM_eq {α : Type} [DecidableEq α] {x : α} {xs : List α} : notInM x xs = some (!decide (x ∈ xs)) := Eq.trans rfl rfl
section
variable {α β γ δ ε ζ : Type} {a : α} {b : β} {c : γ} {d : δ} {e : ε}
theorem c1 {g : α → Option γ} : b1 g (some a) = g a := Eq.trans rfl rfl
theorem c2 {g : α → β → Option γ} : b2 g (some a) (some b) = g a b := Eq.trans rfl rfl
theorem c3 {g : α → β → γ → Option δ} : b3 g (some a) (some b) (some c) = g a b c := Eq.trans rfl rfl
theorem c4 {g : α → β → γ → δ → Option ε} : b4 g (some a) (some b) (some c) (some d) = g a b c d := Eq.trans rfl rfl
theorem c5 {g : α → β → γ → δ → ε → Option ζ} : b5 g (some a) (some b) (some c) (some d) (some e) = g a b c d e := Eq.trans rfl rfl
theorem cmap {g : α → β} : (some a).map g = some (g a) := Eq.trans rfl rfl
theorem cbind {g : α → Option β} : (some a).bind g = g a := Eq.trans rfl rfl
end
theorem cnx {S1 S R : Type} {s : S1} {k : S1 → Option (Fl S R)} : bindF (some (.nx s)) k = k s := Eq.trans rfl rfl
theorem crt {S1 S R : Type} {r : R} {k : S1 → Option (Fl S R)} : bindF (some (.rt r)) k = some (.rt r) := Eq.trans rfl rfl
theorem cfin {S R : Type} {r : R} : finF (some (.rt r) : Option (Fl S R)) = some r := Eq.trans rfl rfl
theorem cfinN {S : Type} {r : S} : finN (some (.nx r : Fl S Unit)) = some () := Eq.trans rfl rfl
theorem cfinR {S : Type} {r : Unit} : finN (some (.rt r : Fl S Unit)) = some () := Eq.trans rfl rfl
theorem cfinO {S R : Type} {r : S} : finO (some (.nx r : Fl S (Option R))) = some none := Eq.trans rfl rfl
theorem cfinP {S R : Type} {r : Option R} : finO (some (.rt r : Fl S (Option R))) = some r := Eq.trans rfl rfl
theorem cexn {S1 S R : Type} {e : Exn} {k : S1 → Option (Fl S R)} : bindF (some (.ex e)) k = some (.ex e) := Eq.trans rfl rfl
theorem cfinX {S R : Type} {r : R} : finX (some (.rt r) : Option (Fl S R)) = some (.ok r) := Eq.trans rfl rfl
theorem cfinXe {S R : Type} {e : Exn} : finX (some (.ex e) : Option (Fl S R)) = some (.ex e) := Eq.trans rfl rfl
theorem cfinXn {S : Type} {r : S} : finXN (some (.nx r : Fl S Unit)) = some (.ok ()) := Eq.trans rfl rfl
theorem cfinXr {S : Type} {r : Unit} : finXN (some (.rt r : Fl S Unit)) = some (.ok ()) := Eq.trans rfl rfl
theorem cfinXx {S : Type} {e : Exn} : finXN (some (.ex e : Fl S Unit)) = some (.ex e) := Eq.trans rfl rfl
theorem noneM_eq : noneM = some none := Eq.trans rfl rfl
theorem andM_2 {a b : Bool} : andM (some a) (some b) = some (a && b) := by cases a <;> rfl
theorem orM_2 {a b : Bool} : orM (some a) (some b) = some (a || b) := by cases a <;> rfl
theorem notM_ss {a : Bool} : notM (some a) = some (!a) := Eq.trans rfl rfl
theorem iteM_ss {α : Type} {c : Bool} {ma mb : Option α} : iteM (some c) ma mb = if c = true then ma else mb := Eq.trans rfl rfl
theorem lenL_eq {α : Type} {xs : List α} : lenL xs = some (xs.length : Int) := Eq.trans rfl rfl
theorem cutM_eq {α : Type} {xs : List α} {lo hi : Option Int} : cutM xs lo hi = some (cutD xs lo hi) := Eq.trans rfl rfl
theorem listM_eq {α : Type} {xs : List α} : listM xs = some xs := Eq.trans rfl rfl
theorem allM_eq {bs : List Bool} : allM bs = some (bs.all id) := Eq.trans rfl rfl
theorem someM_ss {i : Int} : someM (some i) = some (some i) := Eq.trans rfl rfl
theorem revM_eq {α : Type} {xs : List α} : revM xs = some xs.reverse := Eq.trans rfl rfl
theorem consM_eq {α : Type} {x : α} {xs : List α} : consM x xs = some (x :: xs) := Eq.trans rfl rfl
theorem minI_eq {i j : Int} : minI i j = some (if j < i then j else i) := Eq.trans rfl rfl
theorem maxI_eq {i j : Int} : maxI i j = some (if j > i then j else i) := Eq.trans rfl rfl
theorem mk2_eq {α β : Type} {a : α} {b : β} : mk2 a b = some ⟨a, b⟩ := Eq.trans rfl rfl
theorem chM_i {α : Type} {g g' : α → α → Option Bool} {a b c : α} {k k' : Bool} (h : g a b = some k) (h' : g' b c = some k') : chM g g' (some a) (some b) (some c) = some (k && k') := by
  show (g a b).bind _ = _
  rw [h]
  cases k
  · rfl
  · exact h'
theorem shortM_ok {α : Type} {xs : List α} (h : xs.length ≤ 1000) : shortM xs = some xs := by unfold shortM; rw [if_pos h]
theorem catM_ok {α : Type} {xs ys : List α} (h : xs.length + ys.length ≤ 100000) : catM xs ys = some (xs ++ ys) := by unfold catM; rw [if_pos h]
theorem appM_ok {α β : Type} {xs : List α} {x : α} {k : List α → Option β} (h : xs.length < 100000) : appM xs x k = k (xs ++ [x]) := by unfold appM; rw [if_pos h]
theorem rngM_ok {j : Int} (h : -4611686018427387904 ≤ j) (h2 : j < 4611686018427387904) : rngM j = some ((List.range j.toNat).map fun n : Nat => (n : Int)) := by unfold rngM; rw [if_pos ⟨by simpa using h, by simpa using h2⟩]
theorem rng2M_ok {l j : Int} (h : 0 ≤ l) (h1 : l < 4611686018427387904) (h2 : 0 ≤ j) (h3 : j < 4611686018427387904) : rng2M l j = some ((List.range (j - l).toNat).map fun n : Nat => l + (n : Int)) := by unfold rng2M; rw [if_pos ⟨by omega, by simpa using h1, by omega, by simpa using h3⟩]
theorem atI_ok {α : Type} {xs : List α} {i : Int} {z : α} (h0 : 0 ≤ i) (h1 : i < xs.length) : atI xs i = some (xs.getD i.toNat z) := by
  rw [atI_some h0 h1, List.getD_eq_getElem?_getD, List.getElem?_eq_getElem (by omega)]
  rfl
/-! loops -/
theorem forF_ok {α S R : Type} {b : α → S → Option (Fl S R)} (P : Nat → S → Prop) : ∀ (xs : List α) (n : Nat) (s : S), P n s → (∀ i x s, xs[i]? = some x → P (n + i) s → ∃ s', b x s = some (.nx s') ∧ P (n + i + 1) s') → ∃ s', forF b xs s = some (.nx s') ∧ P (n + xs.length) s'
  | [], n, s, h, _ => ⟨s, rfl, h⟩
  | x :: xs, n, s, h, hb => by
    obtain ⟨s1, e1, h1⟩ := hb 0 x s (by simp) h
    obtain ⟨s2, e2, h2⟩ := forF_ok P xs (n + 1) s1 h1 fun i y t hy ht => by
      have := hb (i + 1) y t (by simpa using hy) (by rw [show n + (i + 1) = n + 1 + i by omega]; exact ht)
      rw [show n + 1 + i + 1 = n + (i + 1) + 1 by omega]; exact this
    refine ⟨s2, ?_, by rw [List.length_cons, show n + (xs.length + 1) = n + 1 + xs.length by omega]; exact h2⟩
    show bindF (b x s) _ = _
    rw [e1]; exact e2
theorem for_ok {α S R : Type} {b : α → S → Option (Fl S R)} {xs : List α} {s : S} (P : Nat → S → Prop) (h : P 0 s) (hb : ∀ i x s, xs[i]? = some x → P i s → ∃ s', b x s = some (.nx s') ∧ P (i + 1) s') : ∃ s', forF b xs s = some (.nx s') ∧ P xs.length s' := by
  obtain ⟨s', e, q⟩ := forF_ok P xs 0 s h fun i x s hx hp => by
    rw [Nat.zero_add] at hp ⊢; exact hb i x s hx hp
  exact ⟨s', e, by rw [Nat.zero_add] at q; exact q⟩
/-- a loop that carries nothing and goes through -/
theorem for_unit {α R : Type} {b : α → Unit → Option (Fl Unit R)} : ∀ {xs : List α} {s : Unit}, (∀ x ∈ xs, b x () = some (.nx ())) → forF b xs s = some (.nx ())
  | [], _, _ => rfl
  | x :: xs, _, h => by
    show bindF (b x ()) _ = _
    rw [h x (by simp)]
    exact for_unit fun y hy => h y (by simp [hy])
theorem while_ok {S R : Type} {c : S → Option Bool} {b : S → Option (Fl S R)} (P : S → Prop) (Q : S → Prop) (μ : S → Nat) (hs : ∀ s, P s → (c s = some false ∧ Q s) ∨ (c s = some true ∧ ∃ s', b s = some (.nx s') ∧ P s' ∧ μ s' < μ s)) :
    ∀ (n : Nat) (s : S), P s → μ s < n → ∃ s', whileF c b n s = some (.nx s') ∧ Q s'
  | 0, s, _, h => nomatch h
  | n + 1, s, hp, h => by
    rcases hs s hp with ⟨e, q⟩ | ⟨e, s', e2, p, l⟩
    · exact ⟨s, by show (c s).bind _ = _; rw [e]; rfl, q⟩
    · obtain ⟨s2, e3, q⟩ := while_ok P Q μ hs n s' p (by omega)
      refine ⟨s2, ?_, q⟩
      show (c s).bind _ = _
      rw [e]
      show bindF (b s) (fun s' => whileF c b n s') = _
      rw [e2]
      exact e3
theorem for_fin {α S S' R : Type} {b : α → S → Option (Fl S R)} {xs : List α} {s : S} {k : S → Option (Fl S' R)} {Q : R → Prop} (P : Nat → S → Prop) (h : P 0 s) (hb : ∀ i x s, xs[i]? = some x → P i s → ∃ s', b x s = some (.nx s') ∧ P (i + 1) s') (hk : ∀ s, P xs.length s → ∃ d, finF (k s) = some d ∧ Q d) : ∃ d, finF (bindF (forF b xs s) k) = some d ∧ Q d := by
  obtain ⟨s', e, h'⟩ := for_ok P h hb
  rw [e]; exact hk s' h'
theorem for_nx {α S S' R : Type} {b : α → S → Option (Fl S R)} {xs : List α} {s : S} {k : S → Option (Fl S' R)} {Q : S' → Prop} (P : Nat → S → Prop) (h : P 0 s) (hb : ∀ i x s, xs[i]? = some x → P i s → ∃ s', b x s = some (.nx s') ∧ P (i + 1) s') (hk : ∀ s, P xs.length s → ∃ d, k s = some (.nx d) ∧ Q d) : ∃ d, bindF (forF b xs s) k = some (.nx d) ∧ Q d := by
  obtain ⟨s', e, h'⟩ := for_ok P h hb
  rw [e]; exact hk s' h'
theorem nx_bind {S S' R : Type} {m : Option (Fl S R)} {k : S → Option (Fl S' R)} {Q : S' → Prop} (P : S → Prop) (h : ∃ s, m = some (.nx s) ∧ P s) (hk : ∀ s, P s → ∃ d, k s = some (.nx d) ∧ Q d) : ∃ d, bindF m k = some (.nx d) ∧ Q d := by
  obtain ⟨s', e, h'⟩ := h
  rw [e]; exact hk s' h'
theorem fin_bind {S S' R : Type} {m : Option (Fl S R)} {k : S → Option (Fl S' R)} {Q : R → Prop} (P : S → Prop) (h : ∃ s, m = some (.nx s) ∧ P s) (hk : ∀ s, P s → ∃ d, finF (k s) = some d ∧ Q d) : ∃ d, finF (bindF m k) = some d ∧ Q d := by
  obtain ⟨s', e, h'⟩ := h
  rw [e]; exact hk s' h'
theorem while_fin {S S' R : Type} {c : S → Option Bool} {b : S → Option (Fl S R)} {n : Nat} {s : S} {k : S → Option (Fl S' R)} {Q' : R → Prop} (P : S → Prop) (Q : S → Prop) (μ : S → Nat) (h0 : P s) (hn : μ s < n) (hs : ∀ s, P s → (c s = some false ∧ Q s) ∨ (c s = some true ∧ ∃ s', b s = some (.nx s') ∧ P s' ∧ μ s' < μ s))
    (hk : ∀ s, Q s → ∃ d, finF (k s) = some d ∧ Q' d) : ∃ d, finF (bindF (whileF c b n s) k) = some d ∧ Q' d := by
  obtain ⟨s', e, h'⟩ := while_ok P Q μ hs n s h0 hn
  rw [e]; exact hk s' h'
theorem fuelN_eq : fuelN = 100000 := by unfold fuelN; rfl
/-! comprehensions -/
theorem lcF_fm {α β : Type} {mt : α → Option Bool} {me : α → Option β} {p : α → Bool} {h : α → β} : ∀ {xs : List α}, (∀ x ∈ xs, mt x = some (p x)) → (∀ x ∈ xs, p x = true → me x = some (h x)) → lcF (fun x => lcE (mt x) (me x)) xs = some ((xs.filter p).map h)
  | [], _, _ => rfl
  | x :: xs, h1, h2 => by
    show (lcE (mt x) (me x)).bind _ = _
    have ih := lcF_fm (xs := xs) (fun y hy => h1 y (by simp [hy])) (fun y hy => h2 y (by simp [hy]))
    have e1 : mt x = some (p x) := h1 x (by simp)
    rw [ih]
    unfold lcE
    rw [e1]
    cases hp : p x with
    | true =>
      show ((me x).map some).bind _ = _
      rw [h2 x (by simp) hp, List.filter_cons_of_pos hp]
      rfl
    | false =>
      show (some none : Option (Option β)).bind _ = _
      rw [List.filter_cons_of_neg (by simp [hp])]
      rfl
theorem lc_fm {α β : Type} {mt : α → Option Bool} {me : α → Option β} {xs : List α} (p : α → Bool) (h : α → β) (hl : xs.length ≤ 100000) (h1 : ∀ x ∈ xs, mt x = some (p x)) (h2 : ∀ x ∈ xs, p x = true → me x = some (h x)) : lcM (fun x => lcE (mt x) (me x)) xs = some ((xs.filter p).map h) := by
  unfold lcM; rw [if_pos hl]; exact lcF_fm h1 h2
theorem lc_map {α β : Type} {me : α → Option β} {xs : List α} (h : α → β) (hl : xs.length ≤ 100000) (h2 : ∀ x ∈ xs, me x = some (h x)) : lcM (fun x => lcE (some true) (me x)) xs = some (xs.map h) := by
  have := lc_fm (mt := fun _ => some true) (me := me) (xs := xs) (fun _ => true) h hl (fun _ _ => rfl) (fun x hx _ => h2 x hx)
  rw [this, List.filter_eq_self.mpr fun _ _ => rfl]
theorem lc_filter {α : Type} {mt : α → Option Bool} {xs : List α} (p : α → Bool) (hl : xs.length ≤ 100000) (h1 : ∀ x ∈ xs, mt x = some (p x)) : lcM (fun x => lcE (mt x) (some x)) xs = some (xs.filter p) := by
  have := lc_fm (mt := mt) (me := fun x => some x) (xs := xs) p id hl h1 (fun x hx _ => rfl)
  rw [this]; simp
theorem lc_ex {α β : Type} {me : α → Option β} {P : β → Prop} {xs : List α} (hl : xs.length ≤ 100000) (h : ∀ x ∈ xs, ∃ y, me x = some y ∧ P y) : ∃ ys, lcM (fun x => lcE (some true) (me x)) xs = some ys ∧ ys.length = xs.length ∧ ∀ y ∈ ys, P y := by
  unfold lcM
  rw [if_pos hl]
  clear hl
  induction xs with
  | nil => exact ⟨[], rfl, rfl, fun y hy => by cases hy⟩
  | cons x xs ih =>
    obtain ⟨y, e, hy⟩ := h x (by simp)
    obtain ⟨ys, e2, l, hys⟩ := ih fun z hz => h z (by simp [hz])
    refine ⟨y :: ys, ?_, by simp [l], fun z hz => ?_⟩
    · show (lcE (some true) (me x)).bind _ = _
      rw [e, e2]; rfl
    · rcases List.mem_cons.mp hz with h | h
      · subst h; exact hy
      · exact hys z h
/-! numbers that were drawn -/
def Nm (m : Nat) (d : List Int) : Prop := m ≤ d.length ∧ ∀ x ∈ d, 0 ≤ x ∧ x < 10000
def gI (d : List Int) (i : Nat) : Int := d.getD i 0
theorem Nm.mono {m n : Nat} {d : List Int} (h : Nm m d) (hn : n ≤ m) : Nm n d := ⟨Nat.le_trans hn h.1, h.2⟩
theorem Nm.drop {m : Nat} {d : List Int} (h : Nm m d) (n : Nat) : Nm (m - n) (d.drop n) := ⟨by rw [List.length_drop]; have := h.1; omega, fun x hx => h.2 x (List.mem_of_mem_drop hx)⟩
theorem Nm.take {m : Nat} {d : List Int} (h : Nm m d) (n : Nat) (hn : n ≤ m) : Nm n (d.take n) := ⟨by rw [List.length_take]; have := h.1; omega, fun x hx => h.2 x (List.mem_of_mem_take hx)⟩
theorem gI_nn {m : Nat} {d : List Int} (h : Nm m d) (i : Nat) : 0 ≤ gI d i ∧ gI d i < 10000 := by
  unfold gI
  rw [List.getD_eq_getElem?_getD]
  cases e : d[i]? with
  | none => exact ⟨Int.le_refl _, by decide⟩
  | some x => exact h.2 x (List.mem_of_getElem? e)
theorem atI_nm {m : Nat} {d : List Int} (h : Nm m d) {i : Int} (h0 : 0 ≤ i) (h1 : i < m) : atI d i = some (gI d i.toNat) := atI_ok h0 (by have := h.1; omega)
end Kj

set_option Elab.async false
set_option linter.all false
set_option maxRecDepth 100000
set_option maxHeartbeats 4000000
/-! KjMa: what the programs of books reckon. -/
namespace Kj
open PySem L2
theorem min_if (m n : Nat) : (if (n : Int) < (m : Int) then (n : Int) else (m : Int)) = ((min m n : Nat) : Int) := by
  split <;> omega
theorem alike_eq (a b : List Str) : f_law_alike a b = some (alk a b) := by
  unfold f_law_alike alk
  simp only [c1, c2, c3, c4, c5, cmap, cbind, cnx, crt, cfin, cfinN, cfinR, cfinO, cfinP, cexn, cfinX, cfinXe, cfinXn, cfinXr, cfinXx, addI_eq, subI_eq, negI_eq, ltI_eq, leI_eq, gtI_eq, geI_eq, eqM_eq, neM_eq, inM_eq, notInM_eq, andM_2, orM_2, notM_ss, iteM_ss, lenL_eq, cutM_eq, listM_eq, allM_eq, someM_ss, noneM_eq, revM_eq, consM_eq, minI_eq, maxI_eq, mk2_eq, min_if]
  rw [cutD_to _ (by omega), cutD_to _ (by omega)]
  simp
theorem copy_eq {b : List (List Str)} (h : b.length ≤ 100000) : f_law_copy b = some b := by
  unfold f_law_copy
  simp only [c1, c2, c3, c4, c5, cmap, cbind, cnx, crt, cfin, cfinN, cfinR, cfinO, cfinP, cexn, cfinX, cfinXe, cfinXn, cfinXr, cfinXx, addI_eq, subI_eq, negI_eq, ltI_eq, leI_eq, gtI_eq, geI_eq, eqM_eq, neM_eq, inM_eq, notInM_eq, andM_2, orM_2, notM_ss, iteM_ss, lenL_eq, cutM_eq, listM_eq, allM_eq, someM_ss, noneM_eq, revM_eq, consM_eq, minI_eq, maxI_eq, mk2_eq]
  rw [lc_map (fun x => x) h fun x _ => rfl]
  simp only [c1, c2, c3, c4, c5, cmap, cbind, cnx, crt, cfin, cfinN, cfinR, cfinO, cfinP, cexn, cfinX, cfinXe, cfinXn, cfinXr, cfinXx, addI_eq, subI_eq, negI_eq, ltI_eq, leI_eq, gtI_eq, geI_eq, eqM_eq, neM_eq, inM_eq, notInM_eq, andM_2, orM_2, notM_ss, iteM_ss, lenL_eq, cutM_eq, listM_eq, allM_eq, someM_ss, noneM_eq, revM_eq, consM_eq, minI_eq, maxI_eq, mk2_eq, List.map_id']
theorem begins_eq (a b : List Str) : f_begins a b = some (decide (b.take a.length = a)) := by
  unfold f_begins
  simp only [c1, c2, c3, c4, c5, cmap, cbind, cnx, crt, cfin, cfinN, cfinR, cfinO, cfinP, cexn, cfinX, cfinXe, cfinXn, cfinXr, cfinXx, addI_eq, subI_eq, negI_eq, ltI_eq, leI_eq, gtI_eq, geI_eq, eqM_eq, neM_eq, inM_eq, notInM_eq, andM_2, orM_2, notM_ss, iteM_ss, lenL_eq, cutM_eq, listM_eq, allM_eq, someM_ss, noneM_eq, revM_eq, consM_eq, minI_eq, maxI_eq, mk2_eq]
  rw [cutD_to _ (by omega)]
  simp
theorem lenS_ok {z : Str} (h : z.cps.size ≤ 3) : lenS z = some (z.cps.size : Int) := by
  unfold lenS
  rw [if_pos (by show z.cps.size ≤ sizeLine; rw [sizeLine_eq]; omega)]
  rfl
theorem leS_one (c d : Nat) : leS ⟨#[c]⟩ ⟨#[d]⟩ = some (decide (c ≤ d)) := by
  unfold leS
  congr 1
  rw [Bool.eq_iff_iff]
  simp [List.cons_lt_cons_iff]
theorem syl_true {z : Str} (h : Syl z) : f_is_syllable z = some true := by
  unfold f_is_syllable
  simp only [c1, c2, c3, c4, c5, cmap, cbind, cnx, crt, cfin, cfinN, cfinR, cfinO, cfinP, cexn, cfinX, cfinXe, cfinXn, cfinXr, cfinXx, addI_eq, subI_eq, negI_eq, ltI_eq, leI_eq, gtI_eq, geI_eq, eqM_eq, neM_eq, inM_eq, notInM_eq, andM_2, orM_2, notM_ss, iteM_ss, lenL_eq, cutM_eq, listM_eq, allM_eq, someM_ss, noneM_eq, revM_eq, consM_eq, minI_eq, maxI_eq, mk2_eq, lenS_ok h.2.1]
  rw [chM_i (k := true) (k' := true) (by rw [leI_eq]; have := h.1; exact congrArg some (decide_eq_true (by omega))) (by rw [leI_eq]; have := h.2.1; exact congrArg some (decide_eq_true (by omega)))]
  unfold strM
  simp only [c1, c2, c3, c4, c5, cmap, cbind, cnx, crt, cfin, cfinN, cfinR, cfinO, cfinP, cexn, cfinX, cfinXe, cfinXn, cfinXr, cfinXx, addI_eq, subI_eq, negI_eq, ltI_eq, leI_eq, gtI_eq, geI_eq, eqM_eq, neM_eq, inM_eq, notInM_eq, andM_2, orM_2, notM_ss, iteM_ss, lenL_eq, cutM_eq, listM_eq, allM_eq, someM_ss, noneM_eq, revM_eq, consM_eq, minI_eq, maxI_eq, mk2_eq]
  rw [lc_map (fun _ => true) (by rw [List.length_map, Array.length_toList]; have := h.2.1; omega)]
  · simp [c1, c2, c3, c4, c5, cmap, cbind, cnx, crt, cfin, cfinN, cfinR, cfinO, cfinP, cexn, cfinX, cfinXe, cfinXn, cfinXr, cfinXx, addI_eq, subI_eq, negI_eq, ltI_eq, leI_eq, gtI_eq, geI_eq, eqM_eq, neM_eq, inM_eq, notInM_eq, andM_2, orM_2, notM_ss, iteM_ss, lenL_eq, cutM_eq, listM_eq, allM_eq, someM_ss, noneM_eq, revM_eq, consM_eq, minI_eq, maxI_eq, mk2_eq]
  · intro x hx
    obtain ⟨c, hc, rfl⟩ := List.mem_map.mp hx
    have hcc := h.2.2 c hc
    show chM leS leS (some ⟨#[97]⟩) (some ⟨#[c]⟩) (some ⟨#[122]⟩) = some true
    rw [chM_i (k := true) (k' := true) (by rw [leS_one, decide_eq_true hcc.1]) (by rw [leS_one, decide_eq_true hcc.2])]
    rfl
theorem ver_true {v : List Str} (h : Ver v) : f_is_verse v = some true := by
  unfold f_is_verse
  simp only [c1, c2, c3, c4, c5, cmap, cbind, cnx, crt, cfin, cfinN, cfinR, cfinO, cfinP, cexn, cfinX, cfinXe, cfinXn, cfinXr, cfinXx, addI_eq, subI_eq, negI_eq, ltI_eq, leI_eq, gtI_eq, geI_eq, eqM_eq, neM_eq, inM_eq, notInM_eq, andM_2, orM_2, notM_ss, iteM_ss, lenL_eq, cutM_eq, listM_eq, allM_eq, someM_ss, noneM_eq, revM_eq, consM_eq, minI_eq, maxI_eq, mk2_eq]
  rw [chM_i (k := true) (k' := true) (by rw [leI_eq]; have := h.1; exact congrArg some (decide_eq_true (by omega))) (by rw [leI_eq]; have := h.2.1; exact congrArg some (decide_eq_true (by omega)))]
  rw [lc_map (fun _ => true) (by have := h.2.1; omega) fun x hx => syl_true (h.2.2 x hx)]
  simp [c1, c2, c3, c4, c5, cmap, cbind, cnx, crt, cfin, cfinN, cfinR, cfinO, cfinP, cexn, cfinX, cfinXe, cfinXn, cfinXr, cfinXx, addI_eq, subI_eq, negI_eq, ltI_eq, leI_eq, gtI_eq, geI_eq, eqM_eq, neM_eq, inM_eq, notInM_eq, andM_2, orM_2, notM_ss, iteM_ss, lenL_eq, cutM_eq, listM_eq, allM_eq, someM_ss, noneM_eq, revM_eq, consM_eq, minI_eq, maxI_eq, mk2_eq]
end Kj

set_option Elab.async false
set_option linter.all false
set_option maxRecDepth 100000
set_option maxHeartbeats 4000000
/-! KjMb: books asked: verses, what may come, rivals. -/
namespace Kj
open PySem L2
abbrev BL := List (List Str)
def vAt (b : BL) (n : Int) : List Str := b.getD n.toNat []
def InB (b : BL) (n : Int) : Prop := 0 ≤ n ∧ n < b.length
theorem vAt_mem {b : BL} {n : Int} (h : InB b n) : vAt b n ∈ b := getD_mem (by have := h.1; have := h.2; omega)
theorem atI_v {b : BL} {n : Int} (h : InB b n) : atI b n = some (vAt b n) := atI_ok h.1 h.2
theorem vAt_get {b : BL} {n : Int} (h : InB b n) : b[n.toNat]? = some (vAt b n) := by
  have h1 : n.toNat < b.length := by have := h.1; have := h.2; omega
  unfold vAt
  rw [List.getD_eq_getElem?_getD, List.getElem?_eq_getElem h1]
  rfl
theorem check_rows_ok {b : BL} (h : BookOk 40 b) : f_check_rows b = some () := by
  unfold f_check_rows
  have h1 := h.1
  have h2 := h.2.1
  simp only [c1, c2, c3, c4, c5, cmap, cbind, cnx, crt, cfin, cfinN, cfinR, cfinO, cfinP, cexn, cfinX, cfinXe, cfinXn, cfinXr, cfinXx, addI_eq, subI_eq, negI_eq, ltI_eq, leI_eq, gtI_eq, geI_eq, eqM_eq, neM_eq, inM_eq, notInM_eq, andM_2, orM_2, notM_ss, iteM_ss, lenL_eq, cutM_eq, listM_eq, allM_eq, someM_ss, noneM_eq, revM_eq, consM_eq, minI_eq, maxI_eq, mk2_eq]
  rw [chM_i (k := true) (k' := true) (by rw [leI_eq]; exact congrArg some (decide_eq_true (by omega))) (by rw [leI_eq]; exact congrArg some (decide_eq_true (by omega)))]
  rw [rngM_ok (by omega) (by omega)]
  unfold enumM
  simp only [c1, c2, c3, c4, c5, cmap, cbind, cnx, crt, cfin, cfinN, cfinR, cfinO, cfinP, cexn, cfinX, cfinXe, cfinXn, cfinXr, cfinXx, addI_eq, subI_eq, negI_eq, ltI_eq, leI_eq, gtI_eq, geI_eq, eqM_eq, neM_eq, inM_eq, notInM_eq, andM_2, orM_2, notM_ss, iteM_ss, lenL_eq, cutM_eq, listM_eq, allM_eq, someM_ss, noneM_eq, revM_eq, consM_eq, minI_eq, maxI_eq, mk2_eq, Bool.and_self, Bool.not_true, Bool.false_eq_true, if_false]
  rw [for_unit, cnx, for_unit]
  · rfl
  · intro x hx
    obtain ⟨j, hj, rfl⟩ := List.mem_map.mp hx
    have hj' : j < b.length := by have := List.mem_range.mp hj; omega
    rw [rngM_ok (by omega) (by omega)]
    simp only [c1, c2, c3, c4, c5, cmap, cbind, cnx, crt, cfin, cfinN, cfinR, cfinO, cfinP, cexn, cfinX, cfinXe, cfinXn, cfinXr, cfinXx, addI_eq, subI_eq, negI_eq, ltI_eq, leI_eq, gtI_eq, geI_eq, eqM_eq, neM_eq, inM_eq, notInM_eq, andM_2, orM_2, notM_ss, iteM_ss, lenL_eq, cutM_eq, listM_eq, allM_eq, someM_ss, noneM_eq, revM_eq, consM_eq, minI_eq, maxI_eq, mk2_eq]
    rw [for_unit]
    · rfl
    · intro y hy
      obtain ⟨i, hi, rfl⟩ := List.mem_map.mp hy
      have hi' : i < j := by have := List.mem_range.mp hi; omega
      have ij : InB b (i : Int) := ⟨by omega, by omega⟩
      have jj : InB b (j : Int) := ⟨by omega, by omega⟩
      rw [atI_v ij, atI_v jj]
      simp only [c1, c2, c3, c4, c5, cmap, cbind, cnx, crt, cfin, cfinN, cfinR, cfinO, cfinP, cexn, cfinX, cfinXe, cfinXn, cfinXr, cfinXx, addI_eq, subI_eq, negI_eq, ltI_eq, leI_eq, gtI_eq, geI_eq, eqM_eq, neM_eq, inM_eq, notInM_eq, andM_2, orM_2, notM_ss, iteM_ss, lenL_eq, cutM_eq, listM_eq, allM_eq, someM_ss, noneM_eq, revM_eq, consM_eq, minI_eq, maxI_eq, mk2_eq, begins_eq]
      have n1 : ¬ ((vAt b (j : Int)).take (vAt b (i : Int)).length = vAt b (i : Int)) := book_nobeg h (vAt_get ij) (vAt_get jj) (by omega)
      have n2 : ¬ ((vAt b (i : Int)).take (vAt b (j : Int)).length = vAt b (j : Int)) := book_nobeg h (vAt_get jj) (vAt_get ij) (by omega)
      rw [decide_eq_false n1, decide_eq_false n2]
      rfl
  · intro x hx
    obtain ⟨⟨v, i⟩, hv, rfl⟩ := List.mem_map.mp hx
    have hm : v ∈ b := by
      obtain ⟨_, _, e⟩ := List.mem_zipIdx hv
      rw [e]; exact List.getElem_mem _
    simp only [c1, c2, c3, c4, c5, cmap, cbind, cnx, crt, cfin, cfinN, cfinR, cfinO, cfinP, cexn, cfinX, cfinXe, cfinXn, cfinXr, cfinXx, addI_eq, subI_eq, negI_eq, ltI_eq, leI_eq, gtI_eq, geI_eq, eqM_eq, neM_eq, inM_eq, notInM_eq, andM_2, orM_2, notM_ss, iteM_ss, lenL_eq, cutM_eq, listM_eq, allM_eq, someM_ss, noneM_eq, revM_eq, consM_eq, minI_eq, maxI_eq, mk2_eq, ver_true (h.2.2.1 v hm)]
    rfl
theorem init_ok {b : BL} (h : BookOk 40 b) : f_Book___init__ b = some ⟨b⟩ := by
  unfold f_Book___init__
  simp only [c1, c2, c3, c4, c5, cmap, cbind, cnx, crt, cfin, cfinN, cfinR, cfinO, cfinP, cexn, cfinX, cfinXe, cfinXn, cfinXr, cfinXx, addI_eq, subI_eq, negI_eq, ltI_eq, leI_eq, gtI_eq, geI_eq, eqM_eq, neM_eq, inM_eq, notInM_eq, andM_2, orM_2, notM_ss, iteM_ss, lenL_eq, cutM_eq, listM_eq, allM_eq, someM_ss, noneM_eq, revM_eq, consM_eq, minI_eq, maxI_eq, mk2_eq, check_rows_ok h]
  rw [lc_map (fun x => x) (by have := h.2.1; omega) fun x _ => rfl]
  simp only [c1, c2, c3, c4, c5, cmap, cbind, cnx, crt, cfin, cfinN, cfinR, cfinO, cfinP, cexn, cfinX, cfinXe, cfinXn, cfinXr, cfinXx, addI_eq, subI_eq, negI_eq, ltI_eq, leI_eq, gtI_eq, geI_eq, eqM_eq, neM_eq, inM_eq, notInM_eq, andM_2, orM_2, notM_ss, iteM_ss, lenL_eq, cutM_eq, listM_eq, allM_eq, someM_ss, noneM_eq, revM_eq, consM_eq, minI_eq, maxI_eq, mk2_eq, List.map_id']
  rfl
theorem many_eq (b : BookT) : f_Book_many b = some (b.lines.length : Int) := by
  unfold f_Book_many
  simp only [c1, c2, c3, c4, c5, cmap, cbind, cnx, crt, cfin, cfinN, cfinR, cfinO, cfinP, cexn, cfinX, cfinXe, cfinXn, cfinXr, cfinXx, addI_eq, subI_eq, negI_eq, ltI_eq, leI_eq, gtI_eq, geI_eq, eqM_eq, neM_eq, inM_eq, notInM_eq, andM_2, orM_2, notM_ss, iteM_ss, lenL_eq, cutM_eq, listM_eq, allM_eq, someM_ss, noneM_eq, revM_eq, consM_eq, minI_eq, maxI_eq, mk2_eq]
theorem srtI_len : ∀ u : List Int, (srtI u).length ≤ u.length
  | [] => Nat.le_refl _
  | k :: u => by
    have ih := srtI_len u
    have hi : ∀ (k : Int) (xs : List Int), (insI k xs).length ≤ xs.length + 1 := by
      intro k xs
      induction xs with
      | nil => simp [insI]
      | cons x xs ih =>
        unfold insI
        split
        · simp
        · split
          · simp
          · simp only [List.length_cons]; omega
    have := hi k (srtI u)
    simp only [srtI, List.length_cons]
    omega
def meet (b : BL) (u : List Int) (h : List Str) : List Int := (srtI u).filter fun n => decide ((vAt b n).take h.length = h)
theorem mem_meet {b : BL} {u : List Int} {h : List Str} {n : Int} : n ∈ meet b u h ↔ n ∈ u ∧ (vAt b n).take h.length = h := by
  unfold meet
  rw [List.mem_filter, mem_srtI, decide_eq_true_iff]
def shr : List Str → List Str → Nat
  | x :: xs, y :: ys => if x = y then shr xs ys + 1 else 0
  | _, _ => 0
def rivB (b : BL) (v : Int) (sz : Int) (n : Int) : Bool := (!decide (n = v)) && decide (sz ≤ (shr (vAt b v) (vAt b n) : Int))
def riv (b : BL) (u : List Int) (v sz : Int) : List Int := (srtI u).filter (rivB b v sz)
/-- the size of the deciding beginning -/
def dsz (b : BL) (u : List Int) (v : Int) : Nat := (u.map fun n => if n = v then 0 else shr (vAt b v) (vAt b n) + 1).foldr max 0
def dec (b : BL) (u : List Int) (v : Int) : List Str := (vAt b v).take (dsz b u v)
end Kj

set_option Elab.async false
set_option linter.all false
set_option maxRecDepth 100000
set_option maxHeartbeats 4000000
/-! KjMc: numbers and books that are drawn. -/
namespace Kj
open PySem L2
/-! ### numbers -/
def NmR (n : Nat) (row : List Int) : Prop := row.length ≤ n ∧ ∀ x ∈ row, 0 ≤ x ∧ x < 10000
theorem NmR.app {n : Nat} {row : List Int} (h : NmR n row) {x : Int} (h0 : 0 ≤ x) (h1 : x < 10000) : NmR (n + 1) (row ++ [x]) := ⟨by simp; exact h.1, fun y hy => by
  rcases List.mem_append.mp hy with z | z
  · exact h.2 y z
  · simp at z; subst z; exact ⟨h0, h1⟩⟩
theorem NmR.mono {n m : Nat} {row : List Int} (h : NmR n row) (hm : n ≤ m) : NmR m row := ⟨Nat.le_trans h.1 hm, h.2⟩
theorem powI_18 : powI 10 18 = some 1000000000000000000 := by unfold powI; rfl
theorem numbers_ok {ns : List Int} {m : Nat} (hn : ns.length ≤ 63) (hm : m ≤ 2000) : ∃ d, f_law_numbers ns (m : Int) = some d ∧ Nm m d := by
  unfold f_law_numbers
  simp only [c1, c2, c3, c4, c5, cmap, cbind, cnx, crt, cfin, cfinN, cfinR, cfinO, cfinP, cexn, cfinX, cfinXe, cfinXn, cfinXr, cfinXx, addI_eq, subI_eq, negI_eq, ltI_eq, leI_eq, gtI_eq, geI_eq, eqM_eq, neM_eq, inM_eq, notInM_eq, andM_2, orM_2, notM_ss, iteM_ss, lenL_eq, cutM_eq, listM_eq, allM_eq, someM_ss, noneM_eq, revM_eq, consM_eq, minI_eq, maxI_eq, mk2_eq, powI_18]
  rw [rngM_ok (by omega) (by omega), cutD_to _ (by omega)]
  simp only [c1, c2, c3, c4, c5, cmap, cbind, cnx, crt, cfin, cfinN, cfinR, cfinO, cfinP, cexn, cfinX, cfinXe, cfinXn, cfinXr, cfinXx, addI_eq, subI_eq, negI_eq, ltI_eq, leI_eq, gtI_eq, geI_eq, eqM_eq, neM_eq, inM_eq, notInM_eq, andM_2, orM_2, notM_ss, iteM_ss, lenL_eq, cutM_eq, listM_eq, allM_eq, someM_ss, noneM_eq, revM_eq, consM_eq, minI_eq, maxI_eq, mk2_eq]
  refine for_fin (fun i s => NmR (61 * i) s.1 ∧ 0 ≤ s.2 ∧ s.2 < 2147483648) ⟨⟨by simp, by simp⟩, by decide, by decide⟩ ?_ ?_
  · rintro i x ⟨row, seed⟩ hx ⟨hr, hs0, hs1⟩
    have hi : i < 63 := by
      have := (List.getElem?_eq_some_iff.mp hx).1
      rw [List.length_take] at this
      omega
    dsimp only at hr hs0 hs1 ⊢
    rw [mulI_l (by omega) (by omega), modI_pos (show (0 : Int) < 999983 by omega)]
    simp only [c1, c2, c3, c4, c5, cmap, cbind, cnx, crt, cfin, cfinN, cfinR, cfinO, cfinP, cexn, cfinX, cfinXe, cfinXn, cfinXr, cfinXx, addI_eq, subI_eq, negI_eq, ltI_eq, leI_eq, gtI_eq, geI_eq, eqM_eq, neM_eq, inM_eq, notInM_eq, andM_2, orM_2, notM_ss, iteM_ss, lenL_eq, cutM_eq, listM_eq, allM_eq, someM_ss, noneM_eq, revM_eq, consM_eq, minI_eq, maxI_eq, mk2_eq]
    rw [modI_pos (show (0 : Int) < 2147483563 by omega)]
    simp only [c1, c2, c3, c4, c5, cmap, cbind, cnx, crt, cfin, cfinN, cfinR, cfinO, cfinP, cexn, cfinX, cfinXe, cfinXn, cfinXr, cfinXx, addI_eq, subI_eq, negI_eq, ltI_eq, leI_eq, gtI_eq, geI_eq, eqM_eq, neM_eq, inM_eq, notInM_eq, andM_2, orM_2, notM_ss, iteM_ss, lenL_eq, cutM_eq, listM_eq, allM_eq, someM_ss, noneM_eq, revM_eq, consM_eq, minI_eq, maxI_eq, mk2_eq]
    refine nx_bind (fun r => NmR (61 * i + 1) r) ?_ fun row1 hr1 => ?_
    · split
      · rw [modI_pos (by omega)]
        simp only [c1, c2, c3, c4, c5, cmap, cbind, cnx, crt, cfin, cfinN, cfinR, cfinO, cfinP, cexn, cfinX, cfinXe, cfinXn, cfinXr, cfinXx, addI_eq, subI_eq, negI_eq, ltI_eq, leI_eq, gtI_eq, geI_eq, eqM_eq, neM_eq, inM_eq, notInM_eq, andM_2, orM_2, notM_ss, iteM_ss, lenL_eq, cutM_eq, listM_eq, allM_eq, someM_ss, noneM_eq, revM_eq, consM_eq, minI_eq, maxI_eq, mk2_eq]
        rw [appM_ok (by have := hr.1; omega)]
        exact ⟨_, rfl, hr.app (Int.emod_nonneg _ (by omega)) (by have := Int.emod_lt_of_pos x (show (0 : Int) < 9967 by omega); omega)⟩
      · exact ⟨_, rfl, hr.mono (by omega)⟩
    refine for_nx (fun j s => NmR (61 * i + 1 + j) s.1) hr1 ?_ ?_
    · rintro j y ⟨row, rest⟩ hy hs
      have hj : j < 60 := by
        have := (List.getElem?_eq_some_iff.mp hy).1
        simp at this
        omega
      dsimp only at hs ⊢
      by_cases hp : 0 < rest
      · rw [decide_eq_true hp, if_pos rfl, modI_pos (by omega)]
        simp only [c1, c2, c3, c4, c5, cmap, cbind, cnx, crt, cfin, cfinN, cfinR, cfinO, cfinP, cexn, cfinX, cfinXe, cfinXn, cfinXr, cfinXx, addI_eq, subI_eq, negI_eq, ltI_eq, leI_eq, gtI_eq, geI_eq, eqM_eq, neM_eq, inM_eq, notInM_eq, andM_2, orM_2, notM_ss, iteM_ss, lenL_eq, cutM_eq, listM_eq, allM_eq, someM_ss, noneM_eq, revM_eq, consM_eq, minI_eq, maxI_eq, mk2_eq]
        rw [appM_ok (by have := hs.1; omega), divI_pos (by omega) (by omega)]
        simp only [c1, c2, c3, c4, c5, cmap, cbind, cnx, crt, cfin, cfinN, cfinR, cfinO, cfinP, cexn, cfinX, cfinXe, cfinXn, cfinXr, cfinXx, addI_eq, subI_eq, negI_eq, ltI_eq, leI_eq, gtI_eq, geI_eq, eqM_eq, neM_eq, inM_eq, notInM_eq, andM_2, orM_2, notM_ss, iteM_ss, lenL_eq, cutM_eq, listM_eq, allM_eq, someM_ss, noneM_eq, revM_eq, consM_eq, minI_eq, maxI_eq, mk2_eq]
        exact ⟨_, rfl, hs.app (Int.emod_nonneg _ (by omega)) (by have := Int.emod_lt_of_pos rest (show (0 : Int) < 1013 by omega); omega)⟩
      · rw [decide_eq_false hp, if_neg Bool.false_ne_true]
        exact ⟨_, rfl, hs.mono (by omega)⟩
    · rintro ⟨row2, rest2⟩ hr2
      refine ⟨_, rfl, hr2.mono ?_, Int.emod_nonneg _ (by omega), ?_⟩
      · simp; omega
      · have := Int.emod_lt_of_pos (seed * 40014 + x % 999983 + 17) (show (0 : Int) < 2147483563 by omega)
        dsimp only; omega
  · rintro ⟨row, seed⟩ h1
    have hl : row.length ≤ 61 * 63 := by
      have := h1.1.1
      have : (ns.take (63 : Int).toNat).length ≤ 63 := by rw [List.length_take]; omega
      dsimp only at *
      omega
    refine while_fin (fun s => NmR 10000 s.1 ∧ 0 ≤ s.2 ∧ s.2 < 2147483648) (fun s => NmR 10000 s.1 ∧ m ≤ s.1.length) (fun s => m - s.1.length) ⟨⟨by dsimp only; omega, h1.1.2⟩, h1.2⟩ (by rw [fuelN_eq]; dsimp only; omega) ?_ ?_
    · rintro ⟨row, seed⟩ ⟨hr, hs0, hs1⟩
      dsimp only at hr hs0 hs1 ⊢
      by_cases hp : (row.length : Int) < (m : Int)
      · refine .inr ⟨by rw [decide_eq_true hp], ?_⟩
        rw [mulI_l (i := seed) (by omega) (by omega), mulI_l (i := 52774) (by omega) (by omega), mulI_l (i := 11) (by omega) (by omega)]
        simp only [c1, c2, c3, c4, c5, cmap, cbind, cnx, crt, cfin, cfinN, cfinR, cfinO, cfinP, cexn, cfinX, cfinXe, cfinXn, cfinXr, cfinXx, addI_eq, subI_eq, negI_eq, ltI_eq, leI_eq, gtI_eq, geI_eq, eqM_eq, neM_eq, inM_eq, notInM_eq, andM_2, orM_2, notM_ss, iteM_ss, lenL_eq, cutM_eq, listM_eq, allM_eq, someM_ss, noneM_eq, revM_eq, consM_eq, minI_eq, maxI_eq, mk2_eq]
        rw [modI_pos (show (0 : Int) < 2147483629 by omega)]
        simp only [c1, c2, c3, c4, c5, cmap, cbind, cnx, crt, cfin, cfinN, cfinR, cfinO, cfinP, cexn, cfinX, cfinXe, cfinXn, cfinXr, cfinXx, addI_eq, subI_eq, negI_eq, ltI_eq, leI_eq, gtI_eq, geI_eq, eqM_eq, neM_eq, inM_eq, notInM_eq, andM_2, orM_2, notM_ss, iteM_ss, lenL_eq, cutM_eq, listM_eq, allM_eq, someM_ss, noneM_eq, revM_eq, consM_eq, minI_eq, maxI_eq, mk2_eq]
        rw [divI_pos (by omega) (by omega)]
        simp only [c1, c2, c3, c4, c5, cmap, cbind, cnx, crt, cfin, cfinN, cfinR, cfinO, cfinP, cexn, cfinX, cfinXe, cfinXn, cfinXr, cfinXx, addI_eq, subI_eq, negI_eq, ltI_eq, leI_eq, gtI_eq, geI_eq, eqM_eq, neM_eq, inM_eq, notInM_eq, andM_2, orM_2, notM_ss, iteM_ss, lenL_eq, cutM_eq, listM_eq, allM_eq, someM_ss, noneM_eq, revM_eq, consM_eq, minI_eq, maxI_eq, mk2_eq]
        rw [modI_pos (show (0 : Int) < 9967 by omega)]
        simp only [c1, c2, c3, c4, c5, cmap, cbind, cnx, crt, cfin, cfinN, cfinR, cfinO, cfinP, cexn, cfinX, cfinXe, cfinXn, cfinXr, cfinXx, addI_eq, subI_eq, negI_eq, ltI_eq, leI_eq, gtI_eq, geI_eq, eqM_eq, neM_eq, inM_eq, notInM_eq, andM_2, orM_2, notM_ss, iteM_ss, lenL_eq, cutM_eq, listM_eq, allM_eq, someM_ss, noneM_eq, revM_eq, consM_eq, minI_eq, maxI_eq, mk2_eq]
        rw [appM_ok (by omega)]
        generalize hsd : (seed * seed + 52774 * seed + 11 * (row.length : Int) + 3) % 2147483629 = sd
        have d0 : 0 ≤ sd := by rw [← hsd]; exact Int.emod_nonneg _ (by omega)
        have d1 : sd < 2147483629 := by rw [← hsd]; exact Int.emod_lt_of_pos _ (by omega)
        refine ⟨_, rfl, ⟨(((show NmR row.length row from ⟨Nat.le_refl _, hr.2⟩).app (Int.emod_nonneg _ (by omega)) (by have := Int.emod_lt_of_pos (sd / 1019) (show (0 : Int) < 9967 by omega); omega)).mono (by omega)), d0, by omega⟩, ?_⟩
        simp
        omega
      · exact .inl ⟨by rw [decide_eq_false hp], hr, by omega⟩
    · rintro ⟨row2, seed2⟩ h2
      simp only [c1, c2, c3, c4, c5, cmap, cbind, cnx, crt, cfin, cfinN, cfinR, cfinO, cfinP, cexn, cfinX, cfinXe, cfinXn, cfinXr, cfinXx, addI_eq, subI_eq, negI_eq, ltI_eq, leI_eq, gtI_eq, geI_eq, eqM_eq, neM_eq, inM_eq, notInM_eq, andM_2, orM_2, notM_ss, iteM_ss, lenL_eq, cutM_eq, listM_eq, allM_eq, someM_ss, noneM_eq, revM_eq, consM_eq, minI_eq, maxI_eq, mk2_eq]
      rw [cutD_to _ (by omega)]
      refine ⟨_, rfl, ?_, fun x hx => h2.1.2 x (List.mem_of_mem_take hx)⟩
      rw [List.length_take]
      have := h2.2
      dsimp only at *
      omega
end Kj

set_option Elab.async false
set_option linter.all false
set_option maxRecDepth 100000
set_option maxHeartbeats 4000000
/-! KjMd: books that are drawn. -/
namespace Kj
open PySem L2
theorem emod3 (n : Int) : 0 ≤ n % 3 ∧ n % 3 < 3 := ⟨Int.emod_nonneg _ (by omega), Int.emod_lt_of_pos _ (by omega)⟩
theorem letters_at {i : Int} (h0 : 0 ≤ i) (h1 : i < 26) : ∃ c : Nat, ixS ("abcdefghijklmnopqrstuvwxyz" : Str) i = some ⟨#[c]⟩ ∧ 97 ≤ c ∧ c ≤ 122 := by
  have e : ("abcdefghijklmnopqrstuvwxyz" : Str).cps.toList = (List.range 26).map (· + 97) := by decide
  unfold ixS
  rw [if_pos (by rw [sizeLine_eq]; decide), e, atI_map h0 (by simpa using h1)]
  refine ⟨_, rfl, ?_, ?_⟩
  · simp
  · simp; omega
theorem sound_ok {n : Int} (h0 : 0 ≤ n) (h1 : n < 10000) : ∃ z, f_law_sound n = some z ∧ Syl z := by
  unfold f_law_sound
  have h3 := emod3 n
  simp only [c1, c2, c3, c4, c5, cmap, cbind, cnx, crt, cfin, cfinN, cfinR, cfinO, cfinP, cexn, cfinX, cfinXe, cfinXn, cfinXr, cfinXx, addI_eq, subI_eq, negI_eq, ltI_eq, leI_eq, gtI_eq, geI_eq, eqM_eq, neM_eq, inM_eq, notInM_eq, andM_2, orM_2, notM_ss, iteM_ss, lenL_eq, cutM_eq, listM_eq, allM_eq, someM_ss, noneM_eq, revM_eq, consM_eq, minI_eq, maxI_eq, mk2_eq, divI_pos (show (0 : Int) < 3 by omega) (by omega), divI_pos (show (0 : Int) < 79 by omega) (by omega), modI_pos (show (0 : Int) < 3 by omega)]
  rw [rngM_ok (by omega) (by omega)]
  simp only [c1, c2, c3, c4, c5, cmap, cbind, cnx, crt, cfin, cfinN, cfinR, cfinO, cfinP, cexn, cfinX, cfinXe, cfinXn, cfinXr, cfinXx, addI_eq, subI_eq, negI_eq, ltI_eq, leI_eq, gtI_eq, geI_eq, eqM_eq, neM_eq, inM_eq, notInM_eq, andM_2, orM_2, notM_ss, iteM_ss, lenL_eq, cutM_eq, listM_eq, allM_eq, someM_ss, noneM_eq, revM_eq, consM_eq, minI_eq, maxI_eq, mk2_eq]
  obtain ⟨ys, e, hl, hy⟩ := lc_ex (me := fun x1 : Int => b2 ixS (some ("abcdefghijklmnopqrstuvwxyz" : Str)) (b2 modI (b2 addI (some (n / 3)) (mulI x1 (n / 79))) (some (26 : Int)))) (P := fun z : Str => ∃ c : Nat, z = ⟨#[c]⟩ ∧ 97 ≤ c ∧ c ≤ 122) (xs := (List.range (1 + n % 3).toNat).map fun n : Nat => (n : Int)) (by simp; omega) fun x hx => by
    obtain ⟨k, hk, rfl⟩ := List.mem_map.mp hx
    have := List.mem_range.mp hk
    rw [mulI_l (by omega) (by omega)]
    simp only [c1, c2, c3, c4, c5, cmap, cbind, cnx, crt, cfin, cfinN, cfinR, cfinO, cfinP, cexn, cfinX, cfinXe, cfinXn, cfinXr, cfinXx, addI_eq, subI_eq, negI_eq, ltI_eq, leI_eq, gtI_eq, geI_eq, eqM_eq, neM_eq, inM_eq, notInM_eq, andM_2, orM_2, notM_ss, iteM_ss, lenL_eq, cutM_eq, listM_eq, allM_eq, someM_ss, noneM_eq, revM_eq, consM_eq, minI_eq, maxI_eq, mk2_eq]
    rw [modI_pos (by omega)]
    simp only [c1, c2, c3, c4, c5, cmap, cbind, cnx, crt, cfin, cfinN, cfinR, cfinO, cfinP, cexn, cfinX, cfinXe, cfinXn, cfinXr, cfinXx, addI_eq, subI_eq, negI_eq, ltI_eq, leI_eq, gtI_eq, geI_eq, eqM_eq, neM_eq, inM_eq, notInM_eq, andM_2, orM_2, notM_ss, iteM_ss, lenL_eq, cutM_eq, listM_eq, allM_eq, someM_ss, noneM_eq, revM_eq, consM_eq, minI_eq, maxI_eq, mk2_eq]
    obtain ⟨c, e, hc⟩ := letters_at (i := (n / 3 + (k : Int) * (n / 79)) % 26) (Int.emod_nonneg _ (by omega)) (Int.emod_lt_of_pos _ (by omega))
    exact ⟨_, e, c, rfl, hc⟩
  rw [e]
  have hcs : ∃ cs : List Nat, ys = cs.map (fun c => (⟨#[c]⟩ : Str)) ∧ ∀ c ∈ cs, 97 ≤ c ∧ c ≤ 122 := by
    clear e hl
    induction ys with
    | nil => exact ⟨[], rfl, fun c hc => by cases hc⟩
    | cons y ys ih =>
      obtain ⟨c, e, hc⟩ := hy y (by simp)
      obtain ⟨cs, e2, hcs⟩ := ih fun z hz => hy z (by simp [hz])
      refine ⟨c :: cs, by rw [List.map_cons, ← e2, e], fun d hd => ?_⟩
      rcases List.mem_cons.mp hd with z | z
      · subst z; exact hc
      · exact hcs d z
  obtain ⟨cs, rfl, hcs⟩ := hcs
  rw [List.length_map, List.length_map, List.length_range] at hl
  simp only [c1, c2, c3, c4, c5, cmap, cbind, cnx, crt, cfin, cfinN, cfinR, cfinO, cfinP, cexn, cfinX, cfinXe, cfinXn, cfinXr, cfinXx, addI_eq, subI_eq, negI_eq, ltI_eq, leI_eq, gtI_eq, geI_eq, eqM_eq, neM_eq, inM_eq, notInM_eq, andM_2, orM_2, notM_ss, iteM_ss, lenL_eq, cutM_eq, listM_eq, allM_eq, someM_ss, noneM_eq, revM_eq, consM_eq, minI_eq, maxI_eq, mk2_eq]
  unfold joinM
  have hsum : ((cs.map fun c => (⟨#[c]⟩ : Str)).map (·.length)).sum = cs.length := by
    clear hl hcs e hy
    induction cs with
    | nil => rfl
    | cons c cs ih =>
      rw [List.map_cons, List.map_cons, List.sum_cons, ih, List.length_cons]
      show 1 + cs.length = _
      omega
  have hz : (Str.ofString "").length = 0 := by decide
  rw [if_pos (by rw [hsum, hz]; omega)]
  exact ⟨_, rfl, syl_join (by omega) (by omega) hcs⟩
def Pool (p : List Str) : Prop := p.length = 6 ∧ ∀ z ∈ p, Syl z
theorem pool_ok {d : List Int} (h : Nm 7 d) : ∃ p, f_law_pool d = some p ∧ Pool p := by
  unfold f_law_pool
  simp only [c1, c2, c3, c4, c5, cmap, cbind, cnx, crt, cfin, cfinN, cfinR, cfinO, cfinP, cexn, cfinX, cfinXe, cfinXn, cfinXr, cfinXx, addI_eq, subI_eq, negI_eq, ltI_eq, leI_eq, gtI_eq, geI_eq, eqM_eq, neM_eq, inM_eq, notInM_eq, andM_2, orM_2, notM_ss, iteM_ss, lenL_eq, cutM_eq, listM_eq, allM_eq, someM_ss, noneM_eq, revM_eq, consM_eq, minI_eq, maxI_eq, mk2_eq, atI_nm h (show (0 : Int) ≤ 0 by omega) (by omega), modI_pos (show (0 : Int) < 3 by omega)]
  rw [shortM_ok (by decide), shortM_ok (by decide)]
  simp only [c1, c2, c3, c4, c5, cmap, cbind, cnx, crt, cfin, cfinN, cfinR, cfinO, cfinP, cexn, cfinX, cfinXe, cfinXn, cfinXr, cfinXx, addI_eq, subI_eq, negI_eq, ltI_eq, leI_eq, gtI_eq, geI_eq, eqM_eq, neM_eq, inM_eq, notInM_eq, andM_2, orM_2, notM_ss, iteM_ss, lenL_eq, cutM_eq, listM_eq, allM_eq, someM_ss, noneM_eq, revM_eq, consM_eq, minI_eq, maxI_eq, mk2_eq]
  split
  · exact ⟨_, rfl, by decide, syls_ok (by decide)⟩
  · simp only [c1, c2, c3, c4, c5, cmap, cbind, cnx, crt, cfin, cfinN, cfinR, cfinO, cfinP, cexn, cfinX, cfinXe, cfinXn, cfinXr, cfinXx, addI_eq, subI_eq, negI_eq, ltI_eq, leI_eq, gtI_eq, geI_eq, eqM_eq, neM_eq, inM_eq, notInM_eq, andM_2, orM_2, notM_ss, iteM_ss, lenL_eq, cutM_eq, listM_eq, allM_eq, someM_ss, noneM_eq, revM_eq, consM_eq, minI_eq, maxI_eq, mk2_eq]
    split
    · exact ⟨_, rfl, by decide, syls_ok (by decide)⟩
    · simp only [c1, c2, c3, c4, c5, cmap, cbind, cnx, crt, cfin, cfinN, cfinR, cfinO, cfinP, cexn, cfinX, cfinXe, cfinXn, cfinXr, cfinXx, addI_eq, subI_eq, negI_eq, ltI_eq, leI_eq, gtI_eq, geI_eq, eqM_eq, neM_eq, inM_eq, notInM_eq, andM_2, orM_2, notM_ss, iteM_ss, lenL_eq, cutM_eq, listM_eq, allM_eq, someM_ss, noneM_eq, revM_eq, consM_eq, minI_eq, maxI_eq, mk2_eq]
      rw [rng2M_ok (by omega) (by omega) (by omega) (by omega)]
      simp only [c1, c2, c3, c4, c5, cmap, cbind, cnx, crt, cfin, cfinN, cfinR, cfinO, cfinP, cexn, cfinX, cfinXe, cfinXn, cfinXr, cfinXx, addI_eq, subI_eq, negI_eq, ltI_eq, leI_eq, gtI_eq, geI_eq, eqM_eq, neM_eq, inM_eq, notInM_eq, andM_2, orM_2, notM_ss, iteM_ss, lenL_eq, cutM_eq, listM_eq, allM_eq, someM_ss, noneM_eq, revM_eq, consM_eq, minI_eq, maxI_eq, mk2_eq]
      obtain ⟨ys, e, hl, hy⟩ := lc_ex (me := fun x3 : Int => b1 f_law_sound (atI d x3)) (P := Syl) (xs := (List.range (7 - 1 : Int).toNat).map fun n : Nat => (1 : Int) + (n : Int)) (by decide) fun x hx => by
        obtain ⟨k, hk, rfl⟩ := List.mem_map.mp hx
        have hk' : k < 6 := by have := List.mem_range.mp hk; omega
        rw [atI_nm h (by omega) (by omega)]
        have := gI_nn h ((1 : Int) + (k : Int)).toNat
        exact sound_ok this.1 this.2
      rw [e]
      refine ⟨_, rfl, ?_, hy⟩
      rw [hl]; decide
theorem verse_drawn {b : BL} {p : List Str} {d : List Int} (hb : ∀ v ∈ b, Ver v) (hp : 1 ≤ p.length) (hs : ∀ z ∈ p, Syl z) (hd : Nm 6 d) : ∃ v, f_law_verse b p d = some v ∧ Ver v := by
  unfold f_law_verse
  have g0 := gI_nn hd 0
  have g1 := gI_nn hd 1
  have g2 := emod3 (gI d 2)
  simp only [c1, c2, c3, c4, c5, cmap, cbind, cnx, crt, cfin, cfinN, cfinR, cfinO, cfinP, cexn, cfinX, cfinXe, cfinXn, cfinXr, cfinXx, addI_eq, subI_eq, negI_eq, ltI_eq, leI_eq, gtI_eq, geI_eq, eqM_eq, neM_eq, inM_eq, notInM_eq, andM_2, orM_2, notM_ss, iteM_ss, lenL_eq, cutM_eq, listM_eq, allM_eq, someM_ss, noneM_eq, revM_eq, consM_eq, minI_eq, maxI_eq, mk2_eq, atI_nm hd (show (0 : Int) ≤ 0 by omega) (by omega), atI_nm hd (show (0 : Int) ≤ 1 by omega) (by omega), atI_nm hd (show (0 : Int) ≤ 2 by omega) (by omega), modI_pos (show (0 : Int) < 3 by omega), modI_pos (show (0 : Int) < 4 by omega), divI_pos (show (0 : Int) < 4 by omega) (by omega)]
  rw [shortM_ok (by decide), shortM_ok (by decide), rngM_ok (by omega) (by omega)]
  simp only [c1, c2, c3, c4, c5, cmap, cbind, cnx, crt, cfin, cfinN, cfinR, cfinO, cfinP, cexn, cfinX, cfinXe, cfinXn, cfinXr, cfinXx, addI_eq, subI_eq, negI_eq, ltI_eq, leI_eq, gtI_eq, geI_eq, eqM_eq, neM_eq, inM_eq, notInM_eq, andM_2, orM_2, notM_ss, iteM_ss, lenL_eq, cutM_eq, listM_eq, allM_eq, someM_ss, noneM_eq, revM_eq, consM_eq, minI_eq, maxI_eq, mk2_eq]
  refine fin_bind (fun v : List Str => v.length ≤ 8 ∧ ∀ z ∈ v, Syl z) ?_ fun v hv => ?_
  · split
    · rename_i hc
      rw [Bool.and_eq_true] at hc
      have hne : b ≠ [] := by simpa using hc.1
      have hbl : 0 < b.length := List.length_pos_iff.mpr hne
      have m0 := Int.emod_nonneg (gI d 1) (show (b.length : Int) ≠ 0 by omega)
      have m1 := Int.emod_lt_of_pos (gI d 1) (show (0 : Int) < b.length by omega)
      rw [modI_pos (show (0 : Int) < (b.length : Int) by omega)]
      simp only [c1, c2, c3, c4, c5, cmap, cbind, cnx, crt, cfin, cfinN, cfinR, cfinO, cfinP, cexn, cfinX, cfinXe, cfinXn, cfinXr, cfinXx, addI_eq, subI_eq, negI_eq, ltI_eq, leI_eq, gtI_eq, geI_eq, eqM_eq, neM_eq, inM_eq, notInM_eq, andM_2, orM_2, notM_ss, iteM_ss, lenL_eq, cutM_eq, listM_eq, allM_eq, someM_ss, noneM_eq, revM_eq, consM_eq, minI_eq, maxI_eq, mk2_eq]
      rw [show (Int.toNat 1) = 1 from rfl, atI_v (b := b) ⟨m0, m1⟩]
      simp only [c1, c2, c3, c4, c5, cmap, cbind, cnx, crt, cfin, cfinN, cfinR, cfinO, cfinP, cexn, cfinX, cfinXe, cfinXn, cfinXr, cfinXx, addI_eq, subI_eq, negI_eq, ltI_eq, leI_eq, gtI_eq, geI_eq, eqM_eq, neM_eq, inM_eq, notInM_eq, andM_2, orM_2, notM_ss, iteM_ss, lenL_eq, cutM_eq, listM_eq, allM_eq, someM_ss, noneM_eq, revM_eq, consM_eq, minI_eq, maxI_eq, mk2_eq]
      rw [modI_pos (by omega)]
      simp only [c1, c2, c3, c4, c5, cmap, cbind, cnx, crt, cfin, cfinN, cfinR, cfinO, cfinP, cexn, cfinX, cfinXe, cfinXn, cfinXr, cfinXx, addI_eq, subI_eq, negI_eq, ltI_eq, leI_eq, gtI_eq, geI_eq, eqM_eq, neM_eq, inM_eq, notInM_eq, andM_2, orM_2, notM_ss, iteM_ss, lenL_eq, cutM_eq, listM_eq, allM_eq, someM_ss, noneM_eq, revM_eq, consM_eq, minI_eq, maxI_eq, mk2_eq]
      have hv := hb _ (vAt_mem (b := b) ⟨m0, m1⟩)
      rw [cutD_to _ (Int.emod_nonneg _ (by omega))]
      refine ⟨_, rfl, ?_, fun z hz => hv.2.2 z (List.mem_of_mem_take hz)⟩
      rw [List.length_take]
      have := hv.2.1
      omega
    · exact ⟨_, rfl, by simp, by simp⟩
  · obtain ⟨ys, e, hl, hy⟩ := lc_ex (me := fun x2 : Int => b2 atI (some p) (b1 (fun y => modI y (p.length : Int)) (atI d (3 + x2)))) (P := Syl) (xs := (List.range (1 + gI d (Int.toNat 2) % 3).toNat).map fun n : Nat => (n : Int)) (by simp; omega) fun x hx => by
      obtain ⟨k, hk, rfl⟩ := List.mem_map.mp hx
      have hk' : k < 3 := by have := List.mem_range.mp hk; have : Int.toNat 2 = 2 := rfl; rw [this] at *; omega
      rw [atI_nm hd (by omega) (by omega)]
      simp only [c1, c2, c3, c4, c5, cmap, cbind, cnx, crt, cfin, cfinN, cfinR, cfinO, cfinP, cexn, cfinX, cfinXe, cfinXn, cfinXr, cfinXx, addI_eq, subI_eq, negI_eq, ltI_eq, leI_eq, gtI_eq, geI_eq, eqM_eq, neM_eq, inM_eq, notInM_eq, andM_2, orM_2, notM_ss, iteM_ss, lenL_eq, cutM_eq, listM_eq, allM_eq, someM_ss, noneM_eq, revM_eq, consM_eq, minI_eq, maxI_eq, mk2_eq]
      rw [modI_pos (by omega)]
      simp only [c1, c2, c3, c4, c5, cmap, cbind, cnx, crt, cfin, cfinN, cfinR, cfinO, cfinP, cexn, cfinX, cfinXe, cfinXn, cfinXr, cfinXx, addI_eq, subI_eq, negI_eq, ltI_eq, leI_eq, gtI_eq, geI_eq, eqM_eq, neM_eq, inM_eq, notInM_eq, andM_2, orM_2, notM_ss, iteM_ss, lenL_eq, cutM_eq, listM_eq, allM_eq, someM_ss, noneM_eq, revM_eq, consM_eq, minI_eq, maxI_eq, mk2_eq]
      have m0 := Int.emod_nonneg (gI d (3 + (k : Int)).toNat) (show (p.length : Int) ≠ 0 by omega)
      have m1 := Int.emod_lt_of_pos (gI d (3 + (k : Int)).toNat) (show (0 : Int) < p.length by omega)
      rw [atI_ok (z := Str.empty) m0 m1]
      exact ⟨_, rfl, hs _ (getD_mem (by omega))⟩
    have e' : lcM (fun x2 : Int => lcE (some true) (b2 atI (some p) (b2 modI (atI d (3 + x2)) (some (p.length : Int))))) ((List.range (1 + gI d (Int.toNat 2) % 3).toNat).map fun n : Nat => (n : Int)) = some ys := by
      rw [← e]
      congr 1
    rw [e']
    have hl' : 1 ≤ ys.length ∧ ys.length ≤ 3 := by
      rw [hl, List.length_map, List.length_range]
      have : Int.toNat 2 = 2 := rfl
      rw [this]
      omega
    simp only [c1, c2, c3, c4, c5, cmap, cbind, cnx, crt, cfin, cfinN, cfinR, cfinO, cfinP, cexn, cfinX, cfinXe, cfinXn, cfinXr, cfinXx, addI_eq, subI_eq, negI_eq, ltI_eq, leI_eq, gtI_eq, geI_eq, eqM_eq, neM_eq, inM_eq, notInM_eq, andM_2, orM_2, notM_ss, iteM_ss, lenL_eq, cutM_eq, listM_eq, allM_eq, someM_ss, noneM_eq, revM_eq, consM_eq, minI_eq, maxI_eq, mk2_eq]
    rw [catM_ok (by omega)]
    simp only [c1, c2, c3, c4, c5, cmap, cbind, cnx, crt, cfin, cfinN, cfinR, cfinO, cfinP, cexn, cfinX, cfinXe, cfinXn, cfinXr, cfinXx, addI_eq, subI_eq, negI_eq, ltI_eq, leI_eq, gtI_eq, geI_eq, eqM_eq, neM_eq, inM_eq, notInM_eq, andM_2, orM_2, notM_ss, iteM_ss, lenL_eq, cutM_eq, listM_eq, allM_eq, someM_ss, noneM_eq, revM_eq, consM_eq, minI_eq, maxI_eq, mk2_eq]
    rw [cutD_to _ (by omega)]
    refine ⟨_, rfl, ?_, ?_, fun z hz => ?_⟩
    · rw [List.length_take, List.length_append]; omega
    · rw [List.length_take]; omega
    · rcases List.mem_append.mp (List.mem_of_mem_take hz) with q | q
      · exact hv.2 z q
      · exact hy z q
end Kj

set_option Elab.async false
set_option linter.all false
set_option maxRecDepth 100000
set_option maxHeartbeats 4000000
/-! KjMe: wide books, books, unread verses. -/
namespace Kj
open PySem L2
def wA : List Str := ["a", "b", "ab", "ba"]
def wB : List Str := ["a", "aa", "ba", "b"]
def wC : List Str := ["ka", "k", "a", "ki"]
def wD : List Str := ["ma", "a", "bab", "a", "b"]
def wAt (d : List Int) (k : Nat) : Int := (gI d 0 + (k : Int) * (1 + 2 * (gI d 1 % 32))) % 64
def wLine (d : List Int) (k : Nat) : List Str := [wA.getD (wAt d k / 16).toNat Str.empty, wB.getD (wAt d k / 4 % 4).toNat Str.empty, wC.getD (wAt d k % 4).toNat Str.empty] ++ wD.take ((gI d 2 + (k : Int) * gI d 3) % 6).toNat
theorem wAt_b (d : List Int) (k : Nat) : 0 ≤ wAt d k ∧ wAt d k < 64 := ⟨Int.emod_nonneg _ (by omega), Int.emod_lt_of_pos _ (by omega)⟩
theorem wLine_ver (d : List Int) (k : Nat) : Ver (wLine d k) := by
  have hb := wAt_b d k
  have m1 := Int.emod_nonneg (gI d 2 + (k : Int) * gI d 3) (show (6 : Int) ≠ 0 by omega)
  have m2 := Int.emod_lt_of_pos (gI d 2 + (k : Int) * gI d 3) (show (0 : Int) < 6 by omega)
  have la : wA.length = 4 := rfl
  have lb : wB.length = 4 := rfl
  have lc : wC.length = 4 := rfl
  have ld : wD.length = 5 := rfl
  refine ⟨?_, ?_, fun z hz => ?_⟩
  · simp [wLine]
  · unfold wLine
    rw [List.length_append, List.length_take, ld]
    simp
    omega
  · have sA : ∀ z ∈ wA, Syl z := syls_ok (by decide)
    have sB : ∀ z ∈ wB, Syl z := syls_ok (by decide)
    have sC : ∀ z ∈ wC, Syl z := syls_ok (by decide)
    have sD : ∀ z ∈ wD, Syl z := syls_ok (by decide)
    rcases List.mem_append.mp hz with h | h
    · rcases List.mem_cons.mp h with h | h
      · rw [h]; exact sA _ (getD_mem (by omega))
      · rcases List.mem_cons.mp h with h | h
        · rw [h]; exact sB _ (getD_mem (by omega))
        · rw [List.mem_singleton.mp h]; exact sC _ (getD_mem (by omega))
    · exact sD _ (List.mem_of_mem_take h)
theorem getD_inj {l : List Str} (hn : l.Nodup) {i j : Nat} (hi : i < l.length) (hj : j < l.length) (h : l.getD i Str.empty = l.getD j Str.empty) : i = j := by
  rw [List.getD_eq_getElem?_getD, List.getD_eq_getElem?_getD, List.getElem?_eq_getElem hi, List.getElem?_eq_getElem hj] at h
  have h' : l[i] = l[j] := h
  rcases Nat.lt_trichotomy i j with q | q | q
  · exact absurd h' (List.pairwise_iff_getElem.mp hn i j hi hj q)
  · exact q
  · exact absurd h'.symm (List.pairwise_iff_getElem.mp hn j i hj hi q)
theorem odd_mod {s : Int} (hs : s % 2 = 1) {a : Int} {i j : Nat} (hi : i < 64) (hj : j < 64) (h : (a + (i : Int) * s) % 64 = (a + (j : Int) * s) % 64) : i = j := by
  have h1 : (((i : Int) - j) * s) % 64 = 0 := by
    have e : ((i : Int) - j) * s = (a + (i : Int) * s) - (a + (j : Int) * s) := by rw [Int.sub_mul]; omega
    rw [e]
    omega
  have h2 : (64 : Int) ∣ ((i : Int) - j) * s := Int.dvd_of_emod_eq_zero h1
  have hc : Nat.Coprime (2 ^ 6) s.natAbs := Nat.Coprime.pow_left 6 (by
    rw [Nat.coprime_iff_gcd_eq_one, Nat.gcd_rec]
    have : s.natAbs % 2 = 1 := by omega
    rw [this]
    exact Nat.gcd_one_left _)
  have h4 : 2 ^ 6 ∣ ((i : Int) - j).natAbs * s.natAbs := by
    have := Int.natAbs_dvd_natAbs.mpr h2
    rw [Int.natAbs_mul] at this
    exact this
  have h3 := Nat.Coprime.dvd_of_dvd_mul_right hc h4
  omega
theorem wLine_alk {d : List Int} {i j : Nat} (hi : i < 64) (hj : j < 64) (hij : i ≠ j) : alk (wLine d i) (wLine d j) = false := by
  unfold alk
  refine decide_eq_false fun h => hij ?_
  have h3 : (wLine d i).take 3 = (wLine d j).take 3 := by
    have l1 : 3 ≤ (wLine d i).length := by simp [wLine]
    have l2 : 3 ≤ (wLine d j).length := by simp [wLine]
    have := congrArg (List.take 3) h
    rw [List.take_take, List.take_take, Nat.min_eq_left (by omega)] at this
    exact this
  have bi := wAt_b d i
  have bj := wAt_b d j
  have e3 : wA.getD (wAt d i / 16).toNat Str.empty = wA.getD (wAt d j / 16).toNat Str.empty ∧ wB.getD (wAt d i / 4 % 4).toNat Str.empty = wB.getD (wAt d j / 4 % 4).toNat Str.empty ∧ wC.getD (wAt d i % 4).toNat Str.empty = wC.getD (wAt d j % 4).toNat Str.empty := by
    simpa [wLine] using h3
  have la : wA.length = 4 := rfl
  have lb : wB.length = 4 := rfl
  have lc : wC.length = 4 := rfl
  have q1 := getD_inj (l := wA) (by decide) (by omega) (by omega) e3.1
  have q2 := getD_inj (l := wB) (by decide) (by omega) (by omega) e3.2.1
  have q3 := getD_inj (l := wC) (by decide) (by omega) (by omega) e3.2.2
  have he : wAt d i = wAt d j := by omega
  unfold wAt at he
  exact odd_mod (by omega) hi hj he
theorem wide_ok {d : List Int} {n : Nat} (hd : Nm 4 d) (hn : n ≤ 40) : f_law_wide d (n : Int) = some ((List.range n).map (wLine d)) := by
  suffices h : ∃ b, f_law_wide d (n : Int) = some b ∧ b = (List.range n).map (wLine d) by
    obtain ⟨b, e, rfl⟩ := h; exact e
  unfold f_law_wide
  have g1 := Int.emod_nonneg (gI d 1) (show (32 : Int) ≠ 0 by omega)
  have g2 := Int.emod_lt_of_pos (gI d 1) (show (0 : Int) < 32 by omega)
  simp only [c1, c2, c3, c4, c5, cmap, cbind, cnx, crt, cfin, cfinN, cfinR, cfinO, cfinP, cexn, cfinX, cfinXe, cfinXn, cfinXr, cfinXx, addI_eq, subI_eq, negI_eq, ltI_eq, leI_eq, gtI_eq, geI_eq, eqM_eq, neM_eq, inM_eq, notInM_eq, andM_2, orM_2, notM_ss, iteM_ss, lenL_eq, cutM_eq, listM_eq, allM_eq, someM_ss, noneM_eq, revM_eq, consM_eq, minI_eq, maxI_eq, mk2_eq, atI_nm hd (show (0 : Int) ≤ 0 by omega) (by omega), atI_nm hd (show (0 : Int) ≤ 1 by omega) (by omega), atI_nm hd (show (0 : Int) ≤ 2 by omega) (by omega), atI_nm hd (show (0 : Int) ≤ 3 by omega) (by omega), modI_pos (show (0 : Int) < 32 by omega), mulI_l (i := 2) (by omega) (by omega)]
  have eA : shortM (["a", "b", "ab", "ba"] : List Str) = some wA := shortM_ok (xs := wA) (by decide)
  have eB : shortM (["a", "aa", "ba", "b"] : List Str) = some wB := shortM_ok (xs := wB) (by decide)
  have eC : shortM (["ka", "k", "a", "ki"] : List Str) = some wC := shortM_ok (xs := wC) (by decide)
  have eD : shortM (["ma", "a", "bab", "a", "b"] : List Str) = some wD := shortM_ok (xs := wD) (by decide)
  rw [rngM_ok (by omega) (by omega), eA, eB, eC, eD]
  simp only [c1, c2, c3, c4, c5, cmap, cbind, cnx, crt, cfin, cfinN, cfinR, cfinO, cfinP, cexn, cfinX, cfinXe, cfinXn, cfinXr, cfinXx, addI_eq, subI_eq, negI_eq, ltI_eq, leI_eq, gtI_eq, geI_eq, eqM_eq, neM_eq, inM_eq, notInM_eq, andM_2, orM_2, notM_ss, iteM_ss, lenL_eq, cutM_eq, listM_eq, allM_eq, someM_ss, noneM_eq, revM_eq, consM_eq, minI_eq, maxI_eq, mk2_eq]
  refine for_fin (fun i s => i ≤ n → s = (List.range i).map (wLine d)) (fun _ => rfl) ?_ fun s hs => ?_
  rotate_left
  · simp only [c1, c2, c3, c4, c5, cmap, cbind, cnx, crt, cfin, cfinN, cfinR, cfinO, cfinP, cexn, cfinX, cfinXe, cfinXn, cfinXr, cfinXx, addI_eq, subI_eq, negI_eq, ltI_eq, leI_eq, gtI_eq, geI_eq, eqM_eq, neM_eq, inM_eq, notInM_eq, andM_2, orM_2, notM_ss, iteM_ss, lenL_eq, cutM_eq, listM_eq, allM_eq, someM_ss, noneM_eq, revM_eq, consM_eq, minI_eq, maxI_eq, mk2_eq]
    exact ⟨_, rfl, by rw [hs (by simp)]; simp⟩
  · intro i x s hx hs
    obtain ⟨hi, hx'⟩ := List.getElem?_eq_some_iff.mp hx
    have hi' : i < n := by simpa using hi
    have ex : x = (i : Int) := by rw [← hx']; simp
    subst ex
    have hs' := hs (by omega)
    subst hs'
    have hb := wAt_b d i
    rw [mulI_l (i := (i : Int)) (by omega) (by omega), mulI_l (i := (i : Int)) (by omega) (by omega)]
    simp only [c1, c2, c3, c4, c5, cmap, cbind, cnx, crt, cfin, cfinN, cfinR, cfinO, cfinP, cexn, cfinX, cfinXe, cfinXn, cfinXr, cfinXx, addI_eq, subI_eq, negI_eq, ltI_eq, leI_eq, gtI_eq, geI_eq, eqM_eq, neM_eq, inM_eq, notInM_eq, andM_2, orM_2, notM_ss, iteM_ss, lenL_eq, cutM_eq, listM_eq, allM_eq, someM_ss, noneM_eq, revM_eq, consM_eq, minI_eq, maxI_eq, mk2_eq]
    rw [modI_pos (show (0 : Int) < 64 by omega)]
    simp only [c1, c2, c3, c4, c5, cmap, cbind, cnx, crt, cfin, cfinN, cfinR, cfinO, cfinP, cexn, cfinX, cfinXe, cfinXn, cfinXr, cfinXx, addI_eq, subI_eq, negI_eq, ltI_eq, leI_eq, gtI_eq, geI_eq, eqM_eq, neM_eq, inM_eq, notInM_eq, andM_2, orM_2, notM_ss, iteM_ss, lenL_eq, cutM_eq, listM_eq, allM_eq, someM_ss, noneM_eq, revM_eq, consM_eq, minI_eq, maxI_eq, mk2_eq]
    rw [show (gI d (Int.toNat 0) + (i : Int) * (1 + 2 * (gI d (Int.toNat 1) % 32))) % 64 = wAt d i from rfl, divI_pos (show (0 : Int) < 16 by omega) (by omega), divI_pos (show (0 : Int) < 4 by omega) (by omega), modI_pos (show (0 : Int) < 4 by omega), modI_pos (show (0 : Int) < 6 by omega)]
    simp only [c1, c2, c3, c4, c5, cmap, cbind, cnx, crt, cfin, cfinN, cfinR, cfinO, cfinP, cexn, cfinX, cfinXe, cfinXn, cfinXr, cfinXx, addI_eq, subI_eq, negI_eq, ltI_eq, leI_eq, gtI_eq, geI_eq, eqM_eq, neM_eq, inM_eq, notInM_eq, andM_2, orM_2, notM_ss, iteM_ss, lenL_eq, cutM_eq, listM_eq, allM_eq, someM_ss, noneM_eq, revM_eq, consM_eq, minI_eq, maxI_eq, mk2_eq]
    rw [modI_pos (show (0 : Int) < 4 by omega)]
    simp only [c1, c2, c3, c4, c5, cmap, cbind, cnx, crt, cfin, cfinN, cfinR, cfinO, cfinP, cexn, cfinX, cfinXe, cfinXn, cfinXr, cfinXx, addI_eq, subI_eq, negI_eq, ltI_eq, leI_eq, gtI_eq, geI_eq, eqM_eq, neM_eq, inM_eq, notInM_eq, andM_2, orM_2, notM_ss, iteM_ss, lenL_eq, cutM_eq, listM_eq, allM_eq, someM_ss, noneM_eq, revM_eq, consM_eq, minI_eq, maxI_eq, mk2_eq]
    have la : wA.length = 4 := rfl
    have lb : wB.length = 4 := rfl
    have lc : wC.length = 4 := rfl
    have ld : wD.length = 5 := rfl
    rw [atI_ok (xs := wA) (z := Str.empty) (by omega) (by omega), atI_ok (xs := wB) (z := Str.empty) (by omega) (by omega), atI_ok (xs := wC) (z := Str.empty) (by omega) (by omega)]
    simp only [c1, c2, c3, c4, c5, cmap, cbind, cnx, crt, cfin, cfinN, cfinR, cfinO, cfinP, cexn, cfinX, cfinXe, cfinXn, cfinXr, cfinXx, addI_eq, subI_eq, negI_eq, ltI_eq, leI_eq, gtI_eq, geI_eq, eqM_eq, neM_eq, inM_eq, notInM_eq, andM_2, orM_2, notM_ss, iteM_ss, lenL_eq, cutM_eq, listM_eq, allM_eq, someM_ss, noneM_eq, revM_eq, consM_eq, minI_eq, maxI_eq, mk2_eq]
    rw [shortM_ok (by simp)]
    simp only [c1, c2, c3, c4, c5, cmap, cbind, cnx, crt, cfin, cfinN, cfinR, cfinO, cfinP, cexn, cfinX, cfinXe, cfinXn, cfinXr, cfinXx, addI_eq, subI_eq, negI_eq, ltI_eq, leI_eq, gtI_eq, geI_eq, eqM_eq, neM_eq, inM_eq, notInM_eq, andM_2, orM_2, notM_ss, iteM_ss, lenL_eq, cutM_eq, listM_eq, allM_eq, someM_ss, noneM_eq, revM_eq, consM_eq, minI_eq, maxI_eq, mk2_eq]
    rw [cutD_to _ (Int.emod_nonneg _ (by omega)), catM_ok (by rw [List.length_take, ld]; simp; omega)]
    simp only [c1, c2, c3, c4, c5, cmap, cbind, cnx, crt, cfin, cfinN, cfinR, cfinO, cfinP, cexn, cfinX, cfinXe, cfinXn, cfinXr, cfinXx, addI_eq, subI_eq, negI_eq, ltI_eq, leI_eq, gtI_eq, geI_eq, eqM_eq, neM_eq, inM_eq, notInM_eq, andM_2, orM_2, notM_ss, iteM_ss, lenL_eq, cutM_eq, listM_eq, allM_eq, someM_ss, noneM_eq, revM_eq, consM_eq, minI_eq, maxI_eq, mk2_eq]
    rw [appM_ok (by simp; omega)]
    refine ⟨_, rfl, fun _ => ?_⟩
    rw [List.range_succ, List.map_append]
    rfl
theorem wide_book {d : List Int} {n m : Nat} (h1 : 1 ≤ n) (hn : n ≤ m) (hm : m ≤ 40) : BookOk m ((List.range n).map (wLine d)) := by
  refine ⟨by simp; exact h1, by simp; exact hn, fun v hv => ?_, ?_⟩
  · obtain ⟨k, _, rfl⟩ := List.mem_map.mp hv
    exact wLine_ver d k
  · rw [List.pairwise_map]
    refine List.Pairwise.imp_of_mem ?_ (List.pairwise_lt_range (n := n))
    intro i j hi hj hij
    have := List.mem_range.mp hi
    have := List.mem_range.mp hj
    exact wLine_alk (by omega) (by omega) (by omega)
theorem book_drawn {d : List Int} {m : Nat} (h1 : 1 ≤ m) (hm : m ≤ 40) (hd : Nm (9 + 6 * m) d) : ∃ b, f_law_book d (m : Int) = some b ∧ BookOk m b := by
  unfold f_law_book
  have g0 := gI_nn hd 0
  have m0 := Int.emod_nonneg (gI d 0) (show (m : Int) ≠ 0 by omega)
  have m1 := Int.emod_lt_of_pos (gI d 0) (show (0 : Int) < m by omega)
  have g8 := gI_nn hd 8
  simp only [c1, c2, c3, c4, c5, cmap, cbind, cnx, crt, cfin, cfinN, cfinR, cfinO, cfinP, cexn, cfinX, cfinXe, cfinXn, cfinXr, cfinXx, addI_eq, subI_eq, negI_eq, ltI_eq, leI_eq, gtI_eq, geI_eq, eqM_eq, neM_eq, inM_eq, notInM_eq, andM_2, orM_2, notM_ss, iteM_ss, lenL_eq, cutM_eq, listM_eq, allM_eq, someM_ss, noneM_eq, revM_eq, consM_eq, minI_eq, maxI_eq, mk2_eq, atI_nm hd (show (0 : Int) ≤ 0 by omega) (by omega), atI_nm hd (show (0 : Int) ≤ 8 by omega) (by omega), modI_pos (show (0 : Int) < 5 by omega), divI_pos (show (0 : Int) < 5 by omega) (by omega), modI_pos (show (0 : Int) < (m : Int) by omega)]
  rw [cutD_mid _ (by omega) (by omega), cutD_mid _ (by omega) (by omega)]
  rw [show ((1 : Int) + gI d (Int.toNat 0) % (m : Int)) = (((1 + (gI d 0 % (m : Int)).toNat : Nat)) : Int) by show (1 : Int) + gI d 0 % (m : Int) = _; omega]
  generalize hq : (1 + (gI d 0 % (m : Int)).toNat : Nat) = q
  have q1 : 1 ≤ q ∧ q ≤ m := by omega
  split
  · have hd4 : Nm 4 ((d.drop (1 : Int).toNat).take ((5 : Int).toNat - (1 : Int).toNat)) := ((hd.drop 1).take 4 (by omega))
    rw [wide_ok hd4 (by omega)]
    simp only [c1, c2, c3, c4, c5, cmap, cbind, cnx, crt, cfin, cfinN, cfinR, cfinO, cfinP, cexn, cfinX, cfinXe, cfinXn, cfinXr, cfinXx, addI_eq, subI_eq, negI_eq, ltI_eq, leI_eq, gtI_eq, geI_eq, eqM_eq, neM_eq, inM_eq, notInM_eq, andM_2, orM_2, notM_ss, iteM_ss, lenL_eq, cutM_eq, listM_eq, allM_eq, someM_ss, noneM_eq, revM_eq, consM_eq, minI_eq, maxI_eq, mk2_eq]
    exact ⟨_, rfl, wide_book q1.1 q1.2 hm⟩
  · simp only [c1, c2, c3, c4, c5, cmap, cbind, cnx, crt, cfin, cfinN, cfinR, cfinO, cfinP, cexn, cfinX, cfinXe, cfinXn, cfinXr, cfinXx, addI_eq, subI_eq, negI_eq, ltI_eq, leI_eq, gtI_eq, geI_eq, eqM_eq, neM_eq, inM_eq, notInM_eq, andM_2, orM_2, notM_ss, iteM_ss, lenL_eq, cutM_eq, listM_eq, allM_eq, someM_ss, noneM_eq, revM_eq, consM_eq, minI_eq, maxI_eq, mk2_eq]
    have hd7 : Nm 7 ((d.drop (1 : Int).toNat).take ((8 : Int).toNat - (1 : Int).toNat)) := ((hd.drop 1).take 7 (by omega))
    obtain ⟨p, ep, hp⟩ := pool_ok hd7
    rw [ep]
    simp only [c1, c2, c3, c4, c5, cmap, cbind, cnx, crt, cfin, cfinN, cfinR, cfinO, cfinP, cexn, cfinX, cfinXe, cfinXn, cfinXr, cfinXx, addI_eq, subI_eq, negI_eq, ltI_eq, leI_eq, gtI_eq, geI_eq, eqM_eq, neM_eq, inM_eq, notInM_eq, andM_2, orM_2, notM_ss, iteM_ss, lenL_eq, cutM_eq, listM_eq, allM_eq, someM_ss, noneM_eq, revM_eq, consM_eq, minI_eq, maxI_eq, mk2_eq]
    have z5 := Int.emod_nonneg (gI d (Int.toNat 8)) (show (5 : Int) ≠ 0 by omega)
    rw [cutD_to _ (by omega), rngM_ok (by omega) (by omega)]
    simp only [c1, c2, c3, c4, c5, cmap, cbind, cnx, crt, cfin, cfinN, cfinR, cfinO, cfinP, cexn, cfinX, cfinXe, cfinXn, cfinXr, cfinXx, addI_eq, subI_eq, negI_eq, ltI_eq, leI_eq, gtI_eq, geI_eq, eqM_eq, neM_eq, inM_eq, notInM_eq, andM_2, orM_2, notM_ss, iteM_ss, lenL_eq, cutM_eq, listM_eq, allM_eq, someM_ss, noneM_eq, revM_eq, consM_eq, minI_eq, maxI_eq, mk2_eq]
    have hp1 : 1 ≤ (p.take (2 + gI d (Int.toNat 8) % 5).toNat).length := by rw [List.length_take, hp.1]; omega
    have hp2 : ∀ z ∈ p.take (2 + gI d (Int.toNat 8) % 5).toNat, Syl z := fun z hz => hp.2 z (List.mem_of_mem_take hz)
    refine for_fin (fun i (s : BL) => s.length ≤ i ∧ (1 ≤ i → 1 ≤ s.length) ∧ (∀ v ∈ s, Ver v) ∧ s.Pairwise (fun x y => alk x y = false)) ⟨by simp, by omega, by simp, by simp⟩ ?_ ?_
    · rintro i x s hx ⟨hl, hl1, hv, hw⟩
      obtain ⟨hi, hx'⟩ := List.getElem?_eq_some_iff.mp hx
      have hi' : i < q := by simpa using hi
      have ex : x = (i : Int) := by rw [← hx']; simp
      subst ex
      rw [mulI_l (i := 6) (by omega) (by omega)]
      simp only [c1, c2, c3, c4, c5, cmap, cbind, cnx, crt, cfin, cfinN, cfinR, cfinO, cfinP, cexn, cfinX, cfinXe, cfinXn, cfinXr, cfinXx, addI_eq, subI_eq, negI_eq, ltI_eq, leI_eq, gtI_eq, geI_eq, eqM_eq, neM_eq, inM_eq, notInM_eq, andM_2, orM_2, notM_ss, iteM_ss, lenL_eq, cutM_eq, listM_eq, allM_eq, someM_ss, noneM_eq, revM_eq, consM_eq, minI_eq, maxI_eq, mk2_eq]
      rw [cutD_mid _ (by omega) (by omega)]
      have hd6 : Nm 6 ((d.drop (9 + 6 * (i : Int)).toNat).take ((15 + 6 * (i : Int)).toNat - (9 + 6 * (i : Int)).toNat)) := by
        have := (hd.drop (9 + 6 * (i : Int)).toNat).take 6 (by omega)
        rw [show (15 + 6 * (i : Int)).toNat - (9 + 6 * (i : Int)).toNat = 6 by omega]
        exact this
      obtain ⟨v, ev, hv1⟩ := verse_drawn hv hp1 hp2 hd6
      rw [ev]
      simp only [c1, c2, c3, c4, c5, cmap, cbind, cnx, crt, cfin, cfinN, cfinR, cfinO, cfinP, cexn, cfinX, cfinXe, cfinXn, cfinXr, cfinXx, addI_eq, subI_eq, negI_eq, ltI_eq, leI_eq, gtI_eq, geI_eq, eqM_eq, neM_eq, inM_eq, notInM_eq, andM_2, orM_2, notM_ss, iteM_ss, lenL_eq, cutM_eq, listM_eq, allM_eq, someM_ss, noneM_eq, revM_eq, consM_eq, minI_eq, maxI_eq, mk2_eq]
      rw [lc_map (fun w => !alk v w) (by omega) fun w _ => by rw [alike_eq]; rfl]
      simp only [c1, c2, c3, c4, c5, cmap, cbind, cnx, crt, cfin, cfinN, cfinR, cfinO, cfinP, cexn, cfinX, cfinXe, cfinXn, cfinXr, cfinXx, addI_eq, subI_eq, negI_eq, ltI_eq, leI_eq, gtI_eq, geI_eq, eqM_eq, neM_eq, inM_eq, notInM_eq, andM_2, orM_2, notM_ss, iteM_ss, lenL_eq, cutM_eq, listM_eq, allM_eq, someM_ss, noneM_eq, revM_eq, consM_eq, minI_eq, maxI_eq, mk2_eq]
      by_cases ha : (s.map fun w => !alk v w).all id = true
      · rw [ha, if_pos rfl, appM_ok (by omega)]
        simp only [c1, c2, c3, c4, c5, cmap, cbind, cnx, crt, cfin, cfinN, cfinR, cfinO, cfinP, cexn, cfinX, cfinXe, cfinXn, cfinXr, cfinXx, addI_eq, subI_eq, negI_eq, ltI_eq, leI_eq, gtI_eq, geI_eq, eqM_eq, neM_eq, inM_eq, notInM_eq, andM_2, orM_2, notM_ss, iteM_ss, lenL_eq, cutM_eq, listM_eq, allM_eq, someM_ss, noneM_eq, revM_eq, consM_eq, minI_eq, maxI_eq, mk2_eq]
        refine ⟨_, rfl, by simp; omega, by simp, fun w hw' => ?_, ?_⟩
        · rcases List.mem_append.mp hw' with z | z
          · exact hv w z
          · rw [List.mem_singleton.mp z]; exact hv1
        · rw [List.pairwise_append]
          refine ⟨hw, by simp, fun x hx y hy => ?_⟩
          rw [List.mem_singleton.mp hy]
          have := List.all_eq_true.mp ha _ (List.mem_map.mpr ⟨x, hx, rfl⟩)
          rw [alk_comm]
          simpa using this
      · rw [Bool.not_eq_true] at ha
        rw [ha, if_neg Bool.false_ne_true]
        simp only [c1, c2, c3, c4, c5, cmap, cbind, cnx, crt, cfin, cfinN, cfinR, cfinO, cfinP, cexn, cfinX, cfinXe, cfinXn, cfinXr, cfinXx, addI_eq, subI_eq, negI_eq, ltI_eq, leI_eq, gtI_eq, geI_eq, eqM_eq, neM_eq, inM_eq, notInM_eq, andM_2, orM_2, notM_ss, iteM_ss, lenL_eq, cutM_eq, listM_eq, allM_eq, someM_ss, noneM_eq, revM_eq, consM_eq, minI_eq, maxI_eq, mk2_eq]
        refine ⟨_, rfl, by omega, fun _ => ?_, hv, hw⟩
        cases s with
        | nil => simp at ha
        | cons _ _ => simp
    · rintro s ⟨hl, hl1, hv, hw⟩
      simp only [c1, c2, c3, c4, c5, cmap, cbind, cnx, crt, cfin, cfinN, cfinR, cfinO, cfinP, cexn, cfinX, cfinXe, cfinXn, cfinXr, cfinXx, addI_eq, subI_eq, negI_eq, ltI_eq, leI_eq, gtI_eq, geI_eq, eqM_eq, neM_eq, inM_eq, notInM_eq, andM_2, orM_2, notM_ss, iteM_ss, lenL_eq, cutM_eq, listM_eq, allM_eq, someM_ss, noneM_eq, revM_eq, consM_eq, minI_eq, maxI_eq, mk2_eq]
      have hql : ((List.range ((q : Nat) : Int).toNat).map fun n : Nat => (n : Int)).length = q := by simp
      rw [hql] at hl hl1
      exact ⟨_, rfl, hl1 q1.1, by omega, hv, hw⟩
theorem pick3 {a b c : Nat} (x : Int) : ∃ m : Nat, atI [(a : Int), (b : Int), (c : Int)] (x % 3) = some (m : Int) ∧ min a (min b c) ≤ m ∧ m ≤ max a (max b c) := by
  have h := emod3 x
  rcases (show x % 3 = 0 ∨ x % 3 = 1 ∨ x % 3 = 2 by omega) with e | e | e
  · rw [e]; exact ⟨a, rfl, by omega, by omega⟩
  · rw [e]; exact ⟨b, rfl, by omega, by omega⟩
  · rw [e]; exact ⟨c, rfl, by omega, by omega⟩
theorem small_list {α : Type} [Enc α] (xs : List α) : small (en xs) = true ↔ xs.length ≤ 100000 ∧ ∀ x ∈ xs, small (en x) = true := by
  show small (.list (xs.map en)) = true ↔ _
  rw [small, Bool.and_eq_true, decide_eq_true_iff, List.length_map, smallAll_iff]
  simp
theorem small_int (i : Int) : small (en i) = true := by show small (.int i) = true; simp [small]
theorem small_ints {xs : List Int} (h : xs.length ≤ 100000) : small (en xs) = true := (small_list xs).mpr ⟨h, fun x _ => small_int x⟩
def Unr (m : Nat) (u : List Int) : Prop := u.length ≤ m + 2 ∧ ∀ n ∈ u, 0 ≤ n ∧ n < (m : Int)
end Kj

set_option Elab.async false
set_option linter.all false
set_option maxRecDepth 100000
set_option maxHeartbeats 4000000
/-! KjMf: a book that is drawn and asked, as laws begin; hurdles. -/
namespace Kj
open PySem L2
def hur (b : BL) (u : List Int) (v : Int) : List (List Int) := (List.range (dsz b u v)).map fun s : Nat => riv b u v (s : Int)
theorem BookOk.mono {m n : Nat} {b : BL} (h : BookOk m b) (hm : m ≤ n) : BookOk n b := ⟨h.1, Nat.le_trans h.2.1 hm, h.2.2⟩
end Kj

set_option Elab.async false
set_option linter.all false
set_option maxRecDepth 100000
set_option maxHeartbeats 4000000
/-! KjMg: what may be heard next. -/
namespace Kj
open PySem L2
def gst (b : BL) (sz : Nat) (c : Ct) (n : Int) : Ct := if sz < (vAt b n).length then cput c ((vAt b n).getD sz Str.empty) ((cget c ((vAt b n).getD sz Str.empty)).getD 0 + 1) else c
def gos (b : BL) (u : List Int) (h : List Str) : Ct := (meet b u h).foldl (gst b h.length) []
theorem meet_len (b : BL) (u : List Int) (h : List Str) : (meet b u h).length ≤ u.length := Nat.le_trans (List.length_filter_le _ _) (srtI_len u)
end Kj

set_option Elab.async false
set_option linter.all false
set_option maxRecDepth 100000
set_option maxHeartbeats 4000000
namespace Kj
open PySem L2
end Kj

set_option Elab.async false
set_option linter.all false
set_option maxRecDepth 100000
set_option maxHeartbeats 4000000
/-! KjMi: the tree of beginnings. -/
namespace Kj
open PySem L2
def nxt (b : BL) (sz : Nat) (s : Str) (n : Int) : Bool := decide (sz < (vAt b n).length) && decide ((vAt b n).getD sz Str.empty = s)
def cnt (b : BL) (sz : Nat) (s : Str) (ns : List Int) : Nat := (ns.filter (nxt b sz s)).length
structure GInv (b : BL) (sz : Nat) (dn : List Int) (c : Ct) : Prop where
  nd : (c.map P2.a).Nodup
  val : ∀ p ∈ c, p.b = (cnt b sz p.a dn : Int) ∧ 0 < cnt b sz p.a dn
  all : ∀ s, 0 < cnt b sz s dn → s ∈ c.map P2.a
theorem cnt_snoc (b : BL) (sz : Nat) (s : Str) (dn : List Int) (n : Int) : cnt b sz s (dn ++ [n]) = cnt b sz s dn + if nxt b sz s n = true then 1 else 0 := by
  unfold cnt
  rw [List.filter_append, List.length_append]
  congr 1
  by_cases h : nxt b sz s n = true
  · rw [if_pos h, List.filter_cons_of_pos h]; rfl
  · rw [if_neg h, List.filter_cons_of_neg h]; rfl
theorem GInv.step {b : BL} {sz : Nat} {dn : List Int} {c : Ct} (g : GInv b sz dn c) (n : Int) : GInv b sz (dn ++ [n]) (gst b sz c n) := by
  unfold gst
  by_cases h : sz < (vAt b n).length
  · rw [if_pos h]
    have hx : ∀ s, nxt b sz s n = true ↔ s = (vAt b n).getD sz Str.empty := fun s => by
      unfold nxt
      rw [Bool.and_eq_true, decide_eq_true_iff, decide_eq_true_iff]
      exact ⟨fun z => z.2.symm, fun z => ⟨h, z.symm⟩⟩
    generalize (vAt b n).getD sz Str.empty = s0 at hx ⊢
    have c0 : cnt b sz s0 (dn ++ [n]) = cnt b sz s0 dn + 1 := by rw [cnt_snoc, if_pos ((hx s0).mpr rfl)]
    have c1' : ∀ s, s ≠ s0 → cnt b sz s (dn ++ [n]) = cnt b sz s dn := fun s hs => by rw [cnt_snoc, if_neg (fun z => hs ((hx s).mp z))]; rfl
    have hget : (cget c s0).getD 0 = (cnt b sz s0 dn : Int) := by
      unfold cget
      cases hf : c.find? fun p => decide (p.a = s0) with
      | none =>
        have hn : s0 ∉ c.map P2.a := fun z => by
          obtain ⟨p, hp, e⟩ := List.mem_map.mp z
          have := List.find?_eq_none.mp hf p hp
          simp [e] at this
        have : cnt b sz s0 dn = 0 := by
          rcases Nat.eq_zero_or_pos (cnt b sz s0 dn) with z | z
          · exact z
          · exact (hn (g.all s0 z)).elim
        rw [this]; rfl
      | some p =>
        have h1 := List.mem_of_find?_eq_some hf
        have h2 : p.a = s0 := by have := List.find?_some hf; simpa using this
        have := (g.val p h1).1
        rw [h2] at this
        exact this
    rw [hget]
    unfold cput
    by_cases ha : (c.any fun p => decide (p.a = s0)) = true
    · rw [if_pos ha]
      have ek : (c.map fun p => if p.a = s0 then (⟨p.a, (cnt b sz s0 dn : Int) + 1⟩ : P2 Str Int) else p).map P2.a = c.map P2.a := by
        rw [List.map_map]
        apply List.map_congr_left
        intro p _
        show (if p.a = s0 then (⟨p.a, (cnt b sz s0 dn : Int) + 1⟩ : P2 Str Int) else p).a = p.a
        split <;> rfl
      refine ⟨by rw [ek]; exact g.nd, fun p hp => ?_, fun s hs => ?_⟩
      · obtain ⟨q, hq, rfl⟩ := List.mem_map.mp hp
        by_cases hqs : q.a = s0
        · rw [if_pos hqs]
          show _ = ((cnt b sz q.a (dn ++ [n]) : Nat) : Int) ∧ 0 < cnt b sz q.a (dn ++ [n])
          rw [hqs, c0]
          exact ⟨by push_cast; rfl, by omega⟩
        · rw [if_neg hqs, c1' _ hqs]; exact g.val q hq
      · rw [ek]
        by_cases hss : s = s0
        · obtain ⟨p, hp, e⟩ := List.any_eq_true.mp ha
          exact List.mem_map.mpr ⟨p, hp, by rw [hss]; simpa using e⟩
        · rw [c1' _ hss] at hs; exact g.all s hs
    · rw [if_neg ha]
      have hn : s0 ∉ c.map P2.a := fun z => by
        obtain ⟨p, hp, e⟩ := List.mem_map.mp z
        exact ha (List.any_eq_true.mpr ⟨p, hp, by simpa using e⟩)
      refine ⟨?_, fun p hp => ?_, fun s hs => ?_⟩
      · rw [List.map_append, List.nodup_append]
        refine ⟨g.nd, by simp, fun x hx y hy e => ?_⟩
        have : y = s0 := by simpa using hy
        rw [e, this] at hx
        exact hn hx
      · rcases List.mem_append.mp hp with hp | hp
        · have hne : p.a ≠ s0 := fun z => hn (List.mem_map.mpr ⟨p, hp, z⟩)
          rw [c1' _ hne]; exact g.val p hp
        · rw [List.mem_singleton.mp hp]
          show _ = ((cnt b sz s0 (dn ++ [n]) : Nat) : Int) ∧ 0 < cnt b sz s0 (dn ++ [n])
          rw [c0]
          exact ⟨by push_cast; rfl, by omega⟩
      · rw [List.map_append]
        by_cases hss : s = s0
        · rw [hss]; simp
        · rw [c1' _ hss] at hs; exact List.mem_append_left _ (g.all s hs)
  · rw [if_neg h]
    have hx : ∀ s, ¬ nxt b sz s n = true := fun s z => by
      unfold nxt at z
      rw [Bool.and_eq_true, decide_eq_true_iff] at z
      exact h z.1
    have c1' : ∀ s, cnt b sz s (dn ++ [n]) = cnt b sz s dn := fun s => by rw [cnt_snoc, if_neg (hx s)]; rfl
    exact ⟨g.nd, fun p hp => by rw [c1']; exact g.val p hp, fun s hs => by rw [c1'] at hs; exact g.all s hs⟩
end Kj

set_option Elab.async false
set_option linter.all false
set_option maxRecDepth 100000
set_option maxHeartbeats 4000000
namespace Kj
open PySem L2
structure DealT where
  source : BookT
  fields : List (List (List Int))
  deriving DecidableEq
abbrev cDeal (K : PySem.W.Frag) : Addr := He.ga K "Deal"
abbrev oDeal (K : PySem.W.Frag) (d : DealT) : List (Str × Abs) := [("source", aBook K d.source), ("fields", aE K d.fields)]
abbrev aDeal (K : PySem.W.Frag) (d : DealT) : Abs := aIns (cDeal K) (oDeal K d)
def f_law_copy_I (v_law_rows : (List (List Int))) : Option (List (List Int)) := finF (S := Unit) (R := (List (List Int))) 
  (b1 (fun r => some (Fl.rt r)) (b1 (lcM fun x1 => lcE (some true) (b1 listM (some x1))) (some v_law_rows)))
def f_copied (v_rows : (List (List Int))) : Option (List (List Int)) := finF (S := Unit) (R := (List (List Int))) 
  (b1 (fun r => some (Fl.rt r)) (b1 (lcM fun x1 => lcE (some true) (b1 listM (some x1))) (some v_rows)))
def f_check_fields (v_book : BookT) (v_fields : (List (List (List Int)))) : Option Unit := finN (S := Unit) 
  (bindF (S1 := Unit) (b1 (fun xs => forF (fun x2 s1 => (bindF (S1 := Unit) (iteM (notM (chM leI leI (some (1 : Int)) (b1 lenL (some x2)) (some (3 : Int))))
    none
    (some (Fl.nx ()))) fun s6 => (bindF (S1 := Unit) (iteM (b1 anyM (b1 (lcM fun x7 => lcE (some true) (b2 gtI (b1 lenL (some x7)) (some (12 : Int)))) (some x2)))
    none
    (some (Fl.nx ()))) fun s8 => (some (Fl.nx ()))))) xs ()) (some v_fields)) fun s1 => (b1 (fun v_lying => (bindF (S1 := Unit) (iteM (notM (b1 allM (b1 (lcM fun x12 => lcE (some true) (chM leI ltI (some (0 : Int)) (some x12) (b1 f_Book_many (some v_book) ))) (some v_lying))))
    none
    (some (Fl.nx ()))) fun s13 => (bindF (S1 := Unit) (iteM (b2 ltI (b1 lenSetIM (some v_lying)) (b1 lenL (some v_lying)))
    none
    (some (Fl.nx ()))) fun s14 => (some (Fl.nx ())))))
    (b1 lim (b1 (catF fun x9 => iteM (some true) (b1 (catF fun x10 => iteM (some true) (b1 (catF fun x11 => iteM (some true) (b1 one1 (some x11)) (some [])) (some x10)) (some [])) (some x9)) (some [])) (some v_fields)))))
def f_Deal___init__ (v_book : BookT) (v_zero : (List (List Int))) (v_one : (List (List Int))) : Option DealT := finI (R := Unit)
  (b1 (fun _ => (b1 (fun y0 => (b1 (fun y1 => (some (Fl.nx (⟨y0, y1⟩ : DealT)))) (b1 shortM (b2 consM (b1 f_copied (some v_zero)) (b2 consM (b1 f_copied (some v_one)) (some ([] : List (List (List Int))))))))) (some v_book))) (b2 f_check_fields (some v_book) (b1 shortM (b2 consM (some v_zero) (b2 consM (some v_one) (some ([] : List (List (List Int)))))))))
def f_Deal_book (v_self : DealT) : Option BookT := finF (S := Unit) (R := BookT) 
  (b1 (fun r => some (Fl.rt r)) ((some v_self).map DealT.source))
def f_check_field (v_field : Int) : Option Unit := finN (S := Unit) 
  (bindF (S1 := Unit) (iteM (notM (chM leI leI (some (0 : Int)) (some v_field) (some (1 : Int))))
    none
    (some (Fl.nx ()))) fun s1 => (some (Fl.nx ())))
def f_Deal_rows (v_self : DealT) (v_field : Int) : Option (List (List Int)) := finF (S := Unit) (R := (List (List Int))) 
  (b1 (fun _ => (b1 (fun r => some (Fl.rt r)) (b1 f_copied (b2 atI ((some v_self).map DealT.fields) (some v_field))))) (b1 f_check_field (some v_field)))
def f_Deal_cards (v_self : DealT) (v_field : Int) : Option (List Int) := finF (S := Unit) (R := (List Int)) 
  (b1 (fun r => some (Fl.rt r)) (b1 lim (b1 (catF fun x1 => iteM (some true) (b1 (catF fun x2 => iteM (some true) (b1 one1 (some x2)) (some [])) (some x1)) (some [])) (b2 f_Deal_rows (some v_self) (some v_field)))))
def f_strays (v_deal : DealT) (v_verses : (List Int)) (v_field : Int) : Option (List Int) := finF (S := Unit) (R := (List Int)) 
  (b1 (fun v_lying => (b1 (fun r => some (Fl.rt r)) (b1 (lcM fun x1 => lcE (b2 notInM (some x1) (some v_lying)) (some x1)) (some v_verses))))
    (b2 f_Deal_cards (some v_deal) (some v_field)))
def f_faultless (v_deal : DealT) (v_unread : (List Int)) (v_heard : (List Str)) : Option (List Int) := finF (S := Unit) (R := (List Int)) 
  (b1 (fun v_coming => (b1 (fun r => some (Fl.rt r)) (b1 (lcM fun x1 => lcE (notM ((b3 f_strays (some v_deal) (some v_coming) (some x1)).map fun xs => !xs.isEmpty)) (some x1)) (b1 rngM (some (2 : Int))))))
    (b3 f_meeting (b1 f_Deal_book (some v_deal) ) (some v_unread) (some v_heard)))
def f_law_heard (v_law_verses : (List (List Str))) (v_law_d : (List Int)) : Option (List Str) := finF (S := Unit) (R := (List Str)) 
  (b1 (fun v_law_line => (b1 (fun v_law_heard_here => (bindF (S1 := (List Str)) (iteM (b2 eqM (b2 modI (b2 atI (some v_law_d) (some (2 : Int))) (some (7 : Int))) (some (6 : Int)))
    (b1 (fun v_law_at => (b1 (fun v_law_heard_here => (some (Fl.nx v_law_heard_here)))
    (b2 catM (b2 catM (b3 cutM (some v_law_heard_here) noneM (someM (some v_law_at))) (b1 shortM (b2 consM (b2 atI (b1 shortM (b2 consM (some ("" : Str)) (b2 consM (some ("a" : Str)) (b2 consM (some ("zzz" : Str)) (b2 consM (b2 atI (some v_law_line) (b1 negI (some (1 : Int)))) (b2 consM (some ("Ab" : Str)) (some ([] : List Str)))))))) (b2 modI (b2 divI (b2 atI (some v_law_d) (some (2 : Int))) (some (7 : Int))) (some (5 : Int)))) (some ([] : List Str))))) (b3 cutM (some v_law_heard_here) (someM (some v_law_at)) noneM))))
    (b2 modI (b2 divI (b2 atI (some v_law_d) (some (2 : Int))) (some (35 : Int))) (b2 addI (b1 lenL (some v_law_heard_here)) (some (1 : Int)))))
    (some (Fl.nx v_law_heard_here))) fun s1 => (b1 (fun r => some (Fl.rt r)) (some s1))))
    (b3 cutM (some v_law_line) noneM (someM (b2 modI (b2 atI (some v_law_d) (some (1 : Int))) (b2 addI (b1 lenL (some v_law_line)) (some (1 : Int))))))))
    (b2 atI (some v_law_verses) (b2 modI (b2 atI (some v_law_d) (some (0 : Int))) (b1 lenL (some v_law_verses)))))
def f_law_meet (v_law_verses : (List (List Str))) (v_law_unread_here : (List Int)) (v_law_heard_here : (List Str)) : Option (List Int) := finF (S := Unit) (R := (List Int)) 
  (b1 (fun v_law_size => (b1 (fun r => some (Fl.rt r)) (b1 (lcM fun x1 => lcE (andM (b2 inM (some x1) (some v_law_unread_here)) (b2 eqM (b3 cutM (b2 atI (some v_law_verses) (some x1)) noneM (someM (some v_law_size))) (some v_law_heard_here))) (some x1)) (b1 rngM (b1 lenL (some v_law_verses))))))
    (b1 lenL (some v_law_heard_here)))
def f_law_made (v_law_book_here : BookT) (v_law_rows : (List (List (List Int)))) : Option DealT := finF (S := Unit) (R := DealT) 
  (b1 (fun r => some (Fl.rt r)) (b3 f_Deal___init__ (some v_law_book_here) (b1 f_law_copy_I (b2 atI (some v_law_rows) (some (0 : Int)))) (b1 f_law_copy_I (b2 atI (some v_law_rows) (some (1 : Int))))))
def f_law_home (v_law_rows : (List (List (List Int)))) (v_law_verse_here : Int) : Option Int := finF (S := Unit) (R := Int) 
  (b1 (fun v_law_fields_here => (b1 (fun r => some (Fl.rt r)) (b2 atI (b2 catM (some v_law_fields_here) (b1 shortM (b2 consM (b1 negI (some (1 : Int))) (some ([] : List Int))))) (some (0 : Int)))))
    (b1 (lcM fun x1 => lcE (b1 anyM (b1 (lcM fun x2 => lcE (some true) (b2 inM (some v_law_verse_here) (some x2))) (b2 atI (some v_law_rows) (some x1)))) (some x1)) (b1 rngM (some (2 : Int)))))
def f_law_scene (v_law_numbers_here : (List Int)) (v_law_most : Int) : Option (P3 (List (List Str)) (List (List (List Int))) (List Int)) := finF (S := Unit) (R := (P3 (List (List Str)) (List (List (List Int))) (List Int))) 
  (b1 (fun v_law_verses => (b1 (fun v_law_rows => (b1 (fun v_law_unread_here => (b1 (fun r => some (Fl.rt r)) (b3 mk3 (some v_law_verses) (some v_law_rows) (some v_law_unread_here))))
    (b2 f_law_unread (b1 lenL (some v_law_verses)) (b3 cutM (some v_law_numbers_here) (someM (b2 addI (some (30 : Int)) (b2 mulI (some (7 : Int)) (some v_law_most)))) noneM))))
    (b2 f_law_fields (b1 lenL (some v_law_verses)) (b3 cutM (some v_law_numbers_here) (someM (b2 addI (some (20 : Int)) (b2 mulI (some (6 : Int)) (some v_law_most)))) noneM))))
    (b2 f_law_book (b3 cutM (some v_law_numbers_here) (someM (some (2 : Int))) noneM) (some v_law_most)))
def f_law_on (v_law_rows : (List (List (List Int)))) (v_law_some : (List Int)) (v_law_field : Int) : Option Bool := finF (S := Unit) (R := Bool) 
  (b1 (fun r => some (Fl.rt r)) (b1 allM (b1 (lcM fun x1 => lcE (some true) (b2 eqM (b2 f_law_home (some v_law_rows) (some x1)) (some v_law_field))) (some v_law_some))))
def f_law_free (v_law_verses : (List (List Str))) (v_law_rows : (List (List (List Int)))) (v_law_unread_here : (List Int)) (v_law_heard_here : (List Str)) : Option (List Int) := finF (S := Unit) (R := (List Int)) 
  (b1 (fun v_law_coming => (b1 (fun r => some (Fl.rt r)) (b1 (lcM fun x1 => lcE (b3 f_law_on (some v_law_rows) (some v_law_coming) (some x1)) (some x1)) (b1 rngM (some (2 : Int))))))
    (b3 f_law_meet (some v_law_verses) (some v_law_unread_here) (some v_law_heard_here)))
end Kj

set_option Elab.async false
set_option linter.all false
set_option maxRecDepth 100000
set_option maxHeartbeats 4000000
/-! Kj39: max and min of numbers, with default=. -/
namespace Kj
open PySem PySem.SeqAt PySem.W PyProof.Rows L2
def rMnMx (K : PySem.W.Frag) (f : Int → Int → Int) : List V → List V → Hp → VK → Prop := fun vs zs H Q => ∃ (a : Addr) (ns : List Int) (z : V), vs = [V.ref a] ∧ zs = [z] ∧ SqL K H a (ns.map V.int) ∧ (ns = [] → Q z H) ∧ ∀ n r, ns = n :: r → Q (.int (r.foldl f n)) H
def mxD (ns : List Int) (z : Int) : Option Int := some (match ns with | [] => z | n :: r => r.foldl max n)
def mnDO (ns : List Int) (z : Option Int) : Option (Option Int) := some (match ns with | [] => z | n :: r => some (r.foldl min n))
section
variable {H0 : Hp} {ρ : List Slot} {K : PySem.W.Frag} {f fa fb : Bool} {te td : TE}
end
end Kj

set_option Elab.async false
set_option linter.all false
set_option maxRecDepth 100000
set_option maxHeartbeats 4000000
namespace Kj
open PySem L2
def f_Deal_where (v_self : DealT) (v_verse : Int) : Option (Option (P3 Int Int Int)) := finF (S := Unit) (R := (Option (P3 Int Int Int))) 
  (b1 (fun _ => (bindF (S1 := Unit) (b1 (fun xs => forF (fun x2 s1 => (bindF (S1 := Unit) (b1 (fun xs => forF (fun x8 s7 => (bindF (S1 := Unit) (iteM (b2 inM (some v_verse) (some x8.b))
    (b1 (fun r => some (Fl.rt r)) ((b3 mk3 (some x2.a) (some x8.a) (b2 idxM (some x8.b) (some v_verse))).map some))
    (some (Fl.nx ()))) fun s10 => (some (Fl.nx ())))) xs ()) (b1 enumM (some x2.b))) fun s7 => (some (Fl.nx ())))) xs ()) (b1 enumM ((some v_self).map DealT.fields))) fun s1 => (b1 (fun r => some (Fl.rt r)) (some (none : (Option (P3 Int Int Int))))))) (b2 f_check_verse ((some v_self).map DealT.source) (some v_verse)))
def f_card_field (v_deal : DealT) (v_verse : Int) : Option Int := finF (S := Unit) (R := Int) 
  (b1 (fun v_spot => (bindF (S1 := Unit) (iteM ((some v_spot).map Option.isNone)
    none
    (some (Fl.nx ()))) fun s1 => (b1 (fun r => some (Fl.rt r)) (((some v_spot).bind id).map P3.a))))
    (b2 f_Deal_where (some v_deal) (some v_verse)))
def f_moment (v_deal : DealT) (v_unread : (List Int)) (v_verse : Int) : Option Int := finF (S := Unit) (R := Int) 
  (b1 (fun v_book => (b1 (fun v_others => (b1 (fun v_field => (b1 (fun r => some (Fl.rt r)) (b2 mxD (b1 (lcM fun x1 => lcE (some true) (b2 addI (b3 f_shared (some v_book) (some v_verse) (some x1)) (some (1 : Int)))) (b3 f_strays (some v_deal) (some v_others) (some v_field))) (some (0 : Int)))))
    (b2 f_card_field (some v_deal) (some v_verse))))
    (b4 f_rivals (some v_book) (some v_unread) (some v_verse) (some (0 : Int)))))
    (b1 f_Deal_book (some v_deal) ))
def f_law_rivals (v_law_verses : (List (List Str))) (v_law_unread_here : (List Int)) (v_law_verse_here : Int) (v_law_size : Int) : Option (List Int) := finF (S := Unit) (R := (List Int)) 
  (b1 (fun v_law_row => (b1 (fun r => some (Fl.rt r)) (b1 (lcM fun x2 => lcE (b2 geI (b3 f_law_share (some v_law_verses) (some v_law_verse_here) (some x2)) (some v_law_size)) (some x2)) (some v_law_row))))
    (b1 (lcM fun x1 => lcE (andM (b2 inM (some x1) (some v_law_unread_here)) (b2 neM (some x1) (some v_law_verse_here))) (some x1)) (b1 rngM (b1 lenL (some v_law_verses)))))
def f_law_moment (v_law_verses : (List (List Str))) (v_law_rows : (List (List (List Int)))) (v_law_unread_here : (List Int)) (v_law_verse_here : Int) : Option Int := finF (S := Unit) (R := Int) 
  (b1 (fun v_law_field => (b1 (fun v_law_size => (bindF (S1 := Int) (whileF (fun s1 => (notM (b3 f_law_on (some v_law_rows) (b4 f_law_rivals (some v_law_verses) (some v_law_unread_here) (some v_law_verse_here) (some s1)) (some v_law_field)))) (fun s1 => (b1 (fun y => (fun v_law_size => (some (Fl.nx v_law_size))) ((fun i j => i + j) s1 y)) (some (1 : Int)))) fuelN v_law_size) fun s1 => (b1 (fun r => some (Fl.rt r)) (some s1))))
    (some (0 : Int))))
    (b2 f_law_home (some v_law_rows) (some v_law_verse_here)))
end Kj

set_option Elab.async false
set_option linter.all false
set_option maxRecDepth 100000
set_option maxHeartbeats 4000000
/-! Kj40: int(bool), is of bools, slices with a step. -/
namespace Kj
open PySem PySem.SeqAt PySem.W PyProof.Rows L2
def intB (k : Bool) : Option Int := some (if k = true then 1 else 0)
def pickL {α : Type} (xs : List α) (lo hi st : Option Int) : List α := (sliceRange (sliceBounds lo hi st xs.length).1 (sliceBounds lo hi st xs.length).2.1 (sliceBounds lo hi st xs.length).2.2).filterMap fun k => xs[k]?
def cutsM {α : Type} (xs : List α) (lo hi st : Option Int) : Option (List α) := if st = some 0 then none else some (pickL xs lo hi st)
def tSl3 (K : PySem.W.Frag) (te : TE) (tl th ts : TO) : TE := fun σ H Q => te σ H fun x H1 => tl σ H1 fun lo H2 => th σ H2 fun hi H3 => ts σ H3 fun st H4 => st ≠ some 0 ∧ ∃ a xs, x = .ref a ∧ SqL K H4 a xs ∧ ∀ p, H4 p = none → Q (.ref p) (upd H4 p (.lst (pickL xs lo hi st)))
section
variable {H0 : Hp} {ρ : List Slot} {K : PySem.W.Frag} {f fa fb : Bool} {te ta tb : TE} {α : Type}
end
end Kj

set_option Elab.async false
set_option linter.all false
set_option maxRecDepth 100000
set_option maxHeartbeats 4000000
/-! Kj41: isinstance of what may be None. -/
namespace Kj
open PySem PySem.SeqAt PySem.W PyProof.Rows L2
section
variable {H0 : Hp} {ρ : List Slot} {K : PySem.W.Frag} {f fa fb : Bool} {te ta tb : TE} {α : Type}
end
def b6 {α β γ δ ε ζ η : Type} (g : α → β → γ → δ → ε → ζ → Option η) (ma : Option α) (mb : Option β) (mc : Option γ) (md : Option δ) (me : Option ε) (mf : Option ζ) : Option η := ma.bind fun a => mb.bind fun b => mc.bind fun c => md.bind fun d => me.bind fun e => mf.bind fun f => g a b c d e f
def sp6 {α β δ ε ζ η γ : Type} (A : α → Abs) (B : β → Abs) (D : δ → Abs) (E : ε → Abs) (G : ζ → Abs) (I : η → Abs) (C : γ → Abs) (F : α → β → δ → ε → ζ → η → Option γ) : Spec := fun As R => ∃ a b d e g i c, As = [A a, B b, D d, E e, G g, I i] ∧ F a b d e g i = some c ∧ R = C c
section
variable {H0 : Hp} {ρ ρ' : List Slot} {K : PySem.W.Frag} {f fa fb fc fd fe ff : Bool} {ta tb tc td te tf : TE} {α β γ δ ε ζ η : Type} {A : α → Abs} {B : β → Abs} {C : γ → Abs} {D : δ → Abs} {E' : ε → Abs} {G : ζ → Abs} {I : η → Abs} {Ex : XK} {ma : Option α} {mb : Option β} {md : Option δ} {me : Option ε} {mg : Option ζ} {mi : Option η}
end
end Kj

set_option Elab.async false
set_option linter.all false
set_option maxRecDepth 100000
set_option maxHeartbeats 4000000
/-! Kj42: chains of three comparisons. -/
namespace Kj
open PySem PySem.SeqAt PySem.W PyProof.Rows L2
def tChain3 (r r' r'' : R2) (ta tb tc td : TE) : TE := fun σ H Q => ta σ H fun x H1 => tb σ H1 fun y H2 => r x y H2 fun z H3 => ∃ k, z = .bl k ∧
  (if k = true then tc σ H3 fun w' H4 => r' y w' H4 fun z2 H5 => ∃ k2, z2 = .bl k2 ∧ (if k2 = true then td σ H5 fun u' H6 => r'' w' u' H6 Q else Q (.bl false) H5) else Q (.bl false) H3)
section
variable {X : Cx} {a b c d : Expr} {ta tb tc td : TE} {pos : Pos}
theorem pt_chain3 {op op' op'' : CmpOp} {r r' r'' : R2} (ho : OpR X (compareOp op) r) (ho' : OpR X (compareOp op') r') (ho'' : OpR X (compareOp op'') r'') (ha : PE X a ta) (hb : PE X b tb) (hc : PE X c tc) (hd : PE X d td)
    (hm : lastMarks [op, op', op''] [b, c, d] = false := by with_unfolding_all rfl) : PT X (.Compare a [op, op', op''] [b, c, d] pos) (tTest (tChain3 r r' r'' ta tb tc td)) := by
  refine ⟨fun pins s σ H Q I h => ?_⟩
  refine isTrue_chain (thn (ha.run pins s σ H _ I h) fun v s1 ⟨x, H1, I1, r1, q1⟩ => test_link (thn (hb.run pins s1 σ H1 _ I1 q1) fun u s2 ⟨y, H2, I2, r2, q2⟩ =>
    thn (ho pins s2 σ H2 x y v u _ I2 r1 r2 q2) fun d s3 ⟨z, H3, I3, r3, k, e, q3⟩ => ?_)) hm
  subst e
  cases r3
  refine wpAny_truthy_bool ?_
  cases k with
  | false =>
    obtain ⟨k', e', q'⟩ := q3
    cases e'
    exact ite_ff ⟨H3, I3, q'⟩
  | true =>
    refine ite_tt (test_link (thn (hc.run pins s3 σ H3 _ I3 q3) fun w' s4 ⟨z', H4, I4, r4, q4⟩ => thn (ho' pins s4 σ H4 y z' u w' _ I4 r2 r4 q4) fun d2 s5 ⟨z2, H5, I5, r5, k2, e2, q5⟩ => ?_))
    subst e2
    cases r5
    refine wpAny_truthy_bool ?_
    cases k2 with
    | false =>
      obtain ⟨k', e', q'⟩ := q5
      cases e'
      exact ite_ff ⟨H5, I5, q'⟩
    | true =>
      refine ite_tt (test_last (thn (hd.run pins s5 σ H5 _ I5 q5) fun w2 s6 ⟨z6, H6, I6, r6, q6⟩ => thn (ho'' pins s6 σ H6 z' z6 w' w2 _ I6 r4 r6 q6) fun d' s7 ⟨z3, H7, I7, r7, k3, e3, q7⟩ => ?_))
      subst e3
      cases r7
      exact wpAny_truthy_bool ⟨H7, I7, q7⟩
end
def chM3 {α : Type} (G G' G'' : α → α → Option Bool) (ma mb mc md : Option α) : Option Bool := ma.bind fun i => mb.bind fun j => (G i j).bind fun k => if k = true then mc.bind fun m => (G' j m).bind fun k2 => if k2 = true then md.bind fun n => G'' m n else some false else some false
section
variable {H0 : Hp} {ρ : List Slot} {K : PySem.W.Frag} {f fa fb fc fd : Bool} {ta tb tc td : TE}
theorem dm_ch3I {mi mj mk ml : Option Int} {g g' g'' : Int → Int → Bool} {G G' G'' : Int → Int → Option Bool} (ha : DM H0 ρ ta fa (aE K) mi) (hb : DM H0 ρ tb fb (aE K) mj) (hc : DM H0 ρ tc fc (aE K) mk) (hd : DM H0 ρ td fd (aE K) ml) (hg : ∀ i j, G i j = some (g i j)) (hg' : ∀ i j, G' i j = some (g' i j)) (hg'' : ∀ i j, G'' i j = some (g'' i j)) :
    DM H0 ρ (tChain3 (rI0 fun i j => .bl (g i j)) (rI0 fun i j => .bl (g' i j)) (rI0 fun i j => .bl (g'' i j)) ta tb tc td) true (aE K) (chM3 G G' G'' mi mj mk ml) := fun x e => by
  obtain ⟨i, h1, e⟩ := Option.bind_eq_some_iff.mp e
  obtain ⟨j, h2, e⟩ := Option.bind_eq_some_iff.mp e
  rw [hg, Option.bind_some] at e
  cases hb1 : g i j with
  | false =>
    rw [hb1] at e
    cases e
    intro σ H Hr Q E k
    refine ha i h1 σ H Hr _ E fun x H1 Hr1 x1 q1 => hb j h2 σ H1 Hr1 _ (E.ext x1) fun y H2 Hr2 x2 q2 => ?_
    cases q1; cases q2
    refine ⟨i, j, rfl, rfl, g i j, rfl, ?_⟩
    rw [hb1, if_neg Bool.false_ne_true]
    exact k _ H2 Hr2 (x1.trans x2) (.bl _)
  | true =>
    rw [hb1, if_pos rfl] at e
    obtain ⟨m, h3, e⟩ := Option.bind_eq_some_iff.mp e
    rw [hg', Option.bind_some] at e
    cases hb2 : g' j m with
    | false =>
      rw [hb2] at e
      cases e
      intro σ H Hr Q E k
      refine ha i h1 σ H Hr _ E fun x H1 Hr1 x1 q1 => hb j h2 σ H1 Hr1 _ (E.ext x1) fun y H2 Hr2 x2 q2 => ?_
      cases q1; cases q2
      refine ⟨i, j, rfl, rfl, g i j, rfl, ?_⟩
      rw [hb1, if_pos rfl]
      refine hc m h3 σ H2 Hr2 _ ((E.ext x1).ext x2) fun z H3 Hr3 x3 q3 => ?_
      cases q3
      refine ⟨j, m, rfl, rfl, g' j m, rfl, ?_⟩
      rw [hb2, if_neg Bool.false_ne_true]
      exact k _ H3 Hr3 ((x1.trans x2).trans x3) (.bl _)
    | true =>
      rw [hb2, if_pos rfl] at e
      obtain ⟨n, h4, e⟩ := Option.bind_eq_some_iff.mp e
      rw [hg''] at e
      cases e
      intro σ H Hr Q E k
      refine ha i h1 σ H Hr _ E fun x H1 Hr1 x1 q1 => hb j h2 σ H1 Hr1 _ (E.ext x1) fun y H2 Hr2 x2 q2 => ?_
      cases q1; cases q2
      refine ⟨i, j, rfl, rfl, g i j, rfl, ?_⟩
      rw [hb1, if_pos rfl]
      refine hc m h3 σ H2 Hr2 _ ((E.ext x1).ext x2) fun z H3 Hr3 x3 q3 => ?_
      cases q3
      refine ⟨j, m, rfl, rfl, g' j m, rfl, ?_⟩
      rw [hb2, if_pos rfl]
      refine hd n h4 σ H3 Hr3 _ (((E.ext x1).ext x2).ext x3) fun z4 H4 Hr4 x4 q4 => ?_
      cases q4
      exact ⟨m, n, rfl, rfl, k _ H4 Hr4 (((x1.trans x2).trans x3).trans x4) (.bl _)⟩
end
theorem chM3_i {α : Type} {G G' G'' : α → α → Option Bool} {a b c d : α} {k k' k'' : Bool} (h : G a b = some k) (h' : G' b c = some k') (h'' : G'' c d = some k'') : chM3 G G' G'' (some a) (some b) (some c) (some d) = some (k && k' && k'') := by
  unfold chM3
  simp only [Option.bind_some, h]
  cases k
  · rfl
  · simp only [Option.bind_some, h', if_true]
    cases k'
    · rfl
    · simp only [if_true, h'']
      rfl
end Kj

set_option Elab.async false
set_option linter.all false
set_option maxRecDepth 100000
set_option maxHeartbeats 4000000
namespace Kj
open PySem L2
def f_check_row (v_deal : DealT) (v_field : Int) (v_row : Int) : Option Unit := finN (S := Unit) 
  (bindF (S1 := Unit) (iteM (notM (chM leI ltI (some (0 : Int)) (some v_row) (b1 lenL (b2 f_Deal_rows (some v_deal) (some v_field)))))
    none
    (some (Fl.nx ()))) fun s1 => (some (Fl.nx ())))
def f_check_sweep (v_deal : DealT) (v_sweep : (P4 Int Int Int Int)) : Option Unit := finN (S := Unit) 
  (b1 (fun x1 => (b1 (fun _ => (bindF (S1 := Unit) (iteM (notM (chM3 leI leI ltI (some (0 : Int)) (some x1.c) (some x1.d) (b1 lenL (b2 atI (b2 f_Deal_rows (some v_deal) (some x1.a)) (some x1.b)))))
    none
    (some (Fl.nx ()))) fun s2 => (some (Fl.nx ())))) (b3 f_check_row (some v_deal) (some x1.a) (some x1.b))))
    (some v_sweep))
def f_Deal_swept (v_self : DealT) (v_sweep : (P4 Int Int Int Int)) : Option (List Int) := finF (S := Unit) (R := (List Int)) 
  (b1 (fun _ => (b1 (fun x1 => (b1 (fun r => some (Fl.rt r)) (b3 cutM (b2 atI (b2 atI ((some v_self).map DealT.fields) (some x1.a)) (some x1.b)) (someM (some x1.c)) (someM (b2 addI (some x1.d) (some (1 : Int)))))))
    (some v_sweep))) (b2 f_check_sweep (some v_self) (some v_sweep)))
def f_is_fault (v_deal : DealT) (v_verse : Int) (v_sweep : (P4 Int Int Int Int)) : Option Bool := finF (S := Unit) (R := Bool) 
  (b1 (fun v_spot => (b1 (fun _ => (b1 (fun r => some (Fl.rt r)) (orM ((some v_spot).map Option.isNone) (b2 neM (((some v_spot).bind id).map P3.a) ((some v_sweep).map P4.a))))) (b2 f_check_sweep (some v_deal) (some v_sweep))))
    (b2 f_Deal_where (some v_deal) (some v_verse)))
def f_is_taken (v_deal : DealT) (v_verse : Int) (v_sweep : (P4 Int Int Int Int)) : Option Bool := finF (S := Unit) (R := Bool) 
  (b1 (fun _ => (b1 (fun r => some (Fl.rt r)) (b2 inM (some v_verse) (b2 f_Deal_swept (some v_deal) (some v_sweep))))) (b2 f_check_verse (b1 f_Deal_book (some v_deal) ) (some v_verse)))
def f_law_sweeps (v_law_rows : (List (List (List Int)))) : Option (List (P4 Int Int Int Int)) := finF (S := Unit) (R := (List (P4 Int Int Int Int))) 
  (b1 (fun v_law_found => (bindF (S1 := (List (P4 Int Int Int Int))) (b1 (fun xs => forF (fun x2 s1 => (bindF (S1 := (List (P4 Int Int Int Int))) (b1 (fun xs => forF (fun x14 s13 => (bindF (S1 := (List (P4 Int Int Int Int))) (b1 (fun xs => forF (fun x20 s19 => (b1 (fun v_law_found => (some (Fl.nx v_law_found)))
    (b2 catM (some s19) (b1 (lcM fun x22 => lcE (some true) (b4 mk4 (some x2) (some x14.a) (some x20) (some x22))) (b2 rng2M (some x20) (b1 lenL (some x14.b))))))) xs s13) (b1 rngM (b1 lenL (some x14.b)))) fun s19 => (some (Fl.nx s19)))) xs s1) (b1 enumM (b2 atI (some v_law_rows) (some x2)))) fun s13 => (some (Fl.nx s13)))) xs v_law_found) (b1 rngM (some (2 : Int)))) fun s1 => (b1 (fun r => some (Fl.rt r)) (some s1))))
    (b1 shortM (some ([] : List (P4 Int Int Int Int)))))
def f_law_touched (v_law_rows : (List (List (List Int)))) (v_law_sweep : (P4 Int Int Int Int)) : Option (List Int) := finF (S := Unit) (R := (List Int)) 
  (b1 (fun r => some (Fl.rt r)) (b3 cutM (b2 atI (b2 atI (some v_law_rows) ((some v_law_sweep).map P4.a)) ((some v_law_sweep).map P4.b)) (someM ((some v_law_sweep).map P4.c)) (someM (b2 addI ((some v_law_sweep).map P4.d) (some (1 : Int))))))
end Kj

set_option Elab.async false
set_option linter.all false
set_option maxRecDepth 100000
set_option maxHeartbeats 4000000
/-! Kj43: loops over a list of one's own, that is appended to later. -/
namespace Kj
open PySem PySem.SeqAt PySem.W PyProof.Rows L2
section
variable {G : WK} {H0 : Hp} {ρ ρ' : List Slot} {K : PySem.W.Frag} {f fa fb fc g : Bool} {ta tb tc te : TE} {α β γ δ S S1 R : Type} {A : R → Abs} {B : S → List Slot} {t u w : TS}
end
def appJM {α β γ : Type} (xs : List α) (k : Option γ) (m : Option β) : Option γ := if xs.length < 100000 then b1 (fun _ => k) m else none
section
variable {Gw : WK} {H0 : Hp} {ρ ρ' : List Slot} {K : PySem.W.Frag} {f fa fb fc g : Bool} {ta tb tc te : TE} {α β γ δ S S1 R : Type} {A : R → Abs} {B : S → List Slot} {t u w : TS}
end
end Kj

set_option Elab.async false
set_option linter.all false
set_option maxRecDepth 100000
set_option maxHeartbeats 4000000
namespace Kj
open PySem L2
def f_Deal_cover (v_self : DealT) (v_verses : (List Int)) : Option (List (P4 Int Int Int Int)) := finF (S := Unit) (R := (List (P4 Int Int Int Int))) 
  (b1 (fun v_wanted => (b1 (fun v_sweeps => (bindF (S1 := (List (P4 Int Int Int Int))) (b1 (fun xs => forF (fun x2 s1 => (bindF (S1 := (List (P4 Int Int Int Int))) (b1 (fun xs => forF (fun x10 s9 => (b1 (fun v_places => (bindF (S1 := (List (P4 Int Int Int Int))) (iteM ((some v_places).map fun xs => !xs.isEmpty)
    (b1 (fun x => appM s9 x fun v_sweeps => (some (Fl.nx v_sweeps))) (b4 mk4 (some x2.a) (some x10.a) (b2 atI (some v_places) (some (0 : Int))) (b2 atI (some v_places) (b1 negI (some (1 : Int))))))
    (some (Fl.nx s9))) fun s14 => (some (Fl.nx s14))))
    (b1 (lcM fun x13 => lcE (b2 inM (some x13.b) (some v_wanted)) (some x13.a)) (b1 enumM (some x10.b))))) xs s1) (b1 enumM (some x2.b))) fun s9 => (some (Fl.nx s9)))) xs v_sweeps) (b1 enumM ((some v_self).map DealT.fields))) fun s1 => (b1 (fun r => some (Fl.rt r)) (some s1)))) (some ([] : (List (P4 Int Int Int Int))))))
    (b2 f_rising ((some v_self).map DealT.source) (some v_verses)))
def f_law_where (v_law_rows : (List (List (List Int)))) (v_law_verse_here : Int) : Option (Option (P3 Int Int Int)) := finF (S := Unit) (R := (Option (P3 Int Int Int))) 
  (bindF (S1 := Unit) (b1 (fun xs => forF (fun x2 s1 => (bindF (S1 := Unit) (b1 (fun xs => forF (fun x8 s7 => (bindF (S1 := Unit) (iteM (b2 inM (some v_law_verse_here) (b2 atI (b2 atI (some v_law_rows) (some x2)) (some x8)))
    (b1 (fun r => some (Fl.rt r)) ((b3 mk3 (some x2) (some x8) (b2 idxM (b2 atI (b2 atI (some v_law_rows) (some x2)) (some x8)) (some v_law_verse_here))).map some))
    (some (Fl.nx ()))) fun s10 => (some (Fl.nx ())))) xs ()) (b1 rngM (b1 lenL (b2 atI (some v_law_rows) (some x2))))) fun s7 => (some (Fl.nx ())))) xs ()) (b1 rngM (some (2 : Int)))) fun s1 => (b1 (fun r => some (Fl.rt r)) (some (none : (Option (P3 Int Int Int))))))
def f_law_cover (v_law_rows : (List (List (List Int)))) (v_law_some : (List Int)) : Option (List (P4 Int Int Int Int)) := finF (S := Unit) (R := (List (P4 Int Int Int Int))) 
  (b1 (fun v_law_found => (bindF (S1 := (List (P4 Int Int Int Int))) (b1 (fun xs => forF (fun x2 s1 => (bindF (S1 := (List (P4 Int Int Int Int))) (b1 (fun xs => forF (fun x10 s9 => (b1 (fun v_law_places => (bindF (S1 := (List (P4 Int Int Int Int))) (iteM (b2 neM (some v_law_places) (b1 shortM (some ([] : List Int))))
    (b1 (fun x => appM s9 x fun v_law_found => (some (Fl.nx v_law_found))) (b4 mk4 (some x2) (some x10.a) (b2 atI (some v_law_places) (some (0 : Int))) (b2 atI (some v_law_places) (b1 negI (some (1 : Int))))))
    (some (Fl.nx s9))) fun s14 => (some (Fl.nx s14))))
    (b1 (lcM fun x13 => lcE (b2 inM (b2 atI (some x10.b) (some x13)) (some v_law_some)) (some x13)) (b1 rngM (b1 lenL (some x10.b)))))) xs s1) (b1 enumM (b2 atI (some v_law_rows) (some x2)))) fun s9 => (some (Fl.nx s9)))) xs v_law_found) (b1 rngM (some (2 : Int)))) fun s1 => (b1 (fun r => some (Fl.rt r)) (some s1)))) (some ([] : (List (P4 Int Int Int Int)))))
end Kj

set_option Elab.async false
set_option linter.all false
set_option maxRecDepth 100000
set_option maxHeartbeats 4000000
/-! Kj44: results that are None or a list of one's own. -/
namespace Kj
open PySem PySem.SeqAt PySem.W PyProof.Rows L2
def aEoO {α : Type} [Enc α] (K : PySem.W.Frag) (x : Option (List α)) : Abs := match x with | none => aD K .none | some xs => aEo K xs
def optK {α β : Type} (kN : Option β) (kS : α → Option β) (o : Option α) : Option β := match o with | none => kN | some x => kS x
def DMoO (K : PySem.W.Frag) (H0 : Hp) (ρ : List Slot) (t : TE) {α : Type} [Enc α] (m : Option (Option (List α))) : Prop :=
  (m = some none → DE H0 ρ t true (aD K .none)) ∧ ∀ xs, m = some (some xs) → DMo K H0 ρ t (some xs)
section
variable {Gw : WK} {H0 : Hp} {ρ ρ' : List Slot} {K : PySem.W.Frag} {f fa fb fc g : Bool} {ta tb tc te : TE} {α β γ δ S S1 R : Type} {A : R → Abs} {B : S → List Slot} {t u w : TS} {Ax : α → Abs} {Bx : β → Abs} {Dx : δ → Abs} {ma : Option α} {mb : Option β} {md : Option δ} {Ex : XK}
theorem dm_aeN [Enc α] : DM H0 ρ (tC .non) true (aEoO K) (some (none : Option (List α))) := fun x e => by cases e; exact de_non
end
end Kj

set_option Elab.async false
set_option linter.all false
set_option maxRecDepth 100000
set_option maxHeartbeats 4000000
/-! Kj45: a, b = x, y; division by numbers of any size; a constant of a module that is a tuple. -/
namespace Kj
open PySem PySem.SeqAt PySem.W PyProof.Rows L2
def divZ (i j : Int) : Option Int := if j ≠ 0 ∧ j.natAbs.log2 < 9000 then some (i.fdiv j) else none
def absM (i : Int) : Option Int := some (if i < 0 then -i else i)
section
variable {G : WK} {H0 : Hp} {ρ ρ' : List Slot} {K : PySem.W.Frag} {f fa fb fc g : Bool} {ta tb tc te : TE} {α β γ δ S S1 R : Type} {A : R → Abs} {B : S → List Slot} {t u w : TS} {mi mj : Option Int}
end
end Kj
namespace He
open PySem PySem.Spec PyProof.Rows L2
def obsBG (n : Nat) (fa : List Fa) (fn : List DefD) (ex : PySem.W.Frag → Bool) (g : Addr → Option Obj) : AlD × Bool := (obsD fa fn (frG g (asD g n)), ex (frG g (asD g n)))
def hookB (n : Nat) (fa : List Fa) (fn : List DefD) (ex : PySem.W.Frag → Bool) : PySem.W.Hook where
  α := AlD × Bool
  obs := fun s => obsBG n fa fn ex s.heap.get?
  val := fun _ => (valD fn, true)
  says := fun _ h => ∃ K : PySem.W.Frag, K.In h ∧ (SaysD fa fn K ∧ ex K = true)
  of := fun _ _ e => ⟨_, frG_in, congrArg (fun z : AlD × Bool => z.1) e, congrArg (fun z : AlD × Bool => z.2) e⟩
  keeps := fun _ _ _ ⟨K, hK, c⟩ k => ⟨K, PySem.W.Frag.In.keeps hK k, c⟩
theorem obsBG_eq {n : Nat} {fa : List Fa} {fn : List DefD} {ex : PySem.W.Frag → Bool} {g : Addr → Option Obj} {s : Shared} (h : ∀ a, g a = s.heap.get? a) : obsBG n fa fn ex g = (hookB n fa fn ex).obs s := by
  have e : g = s.heap.get? := funext h
  rw [e] <;> rfl
end He

set_option Elab.async false
set_option linter.all false
set_option maxRecDepth 100000
set_option maxHeartbeats 4000000
namespace Kj
open PySem L2
def f_common_divisor (v_one : Int) (v_other : Int) : Option Int := finF (S := Unit) (R := Int) 
  (bindF (S1 := Int × Int) (whileF (fun s1 => (b2 gtI (some s1.2) (some (0 : Int)))) (fun s1 => (b2 (fun v_one v_other => (some (Fl.nx (v_one, v_other)))) (some s1.2) (b2 modI (some s1.1) (some s1.2)))) fuelN (v_one, v_other)) fun s1 => (b1 (fun r => some (Fl.rt r)) (some s1.1)))
def f_part (v_top : Int) (v_bottom : Int) : Option (P2 Int Int) := finF (S := Unit) (R := (P2 Int Int)) 
  (bindF (S1 := Unit) (iteM (b2 eqM (some v_bottom) (some (0 : Int)))
    none
    (some (Fl.nx ()))) fun s1 => (b1 (fun v_divisor => (bindF (S1 := Int) (iteM (b2 ltI (some v_bottom) (some (0 : Int)))
    (b1 (fun v_divisor => (some (Fl.nx v_divisor)))
    (b1 negI (some v_divisor)))
    (some (Fl.nx v_divisor))) fun s2 => (b1 (fun r => some (Fl.rt r)) (b2 mk2 (b2 divZ (some v_top) (some s2)) (b2 divZ (some v_bottom) (some s2))))))
    (b2 f_common_divisor (b1 absM (some v_top)) (b1 absM (some v_bottom)))))
def f_plus (v_one : (P2 Int Int)) (v_other : (P2 Int Int)) : Option (P2 Int Int) := finF (S := Unit) (R := (P2 Int Int)) 
  (b1 (fun r => some (Fl.rt r)) (b2 f_part (b2 addI (b2 mulI ((some v_one).map P2.a) ((some v_other).map P2.b)) (b2 mulI ((some v_other).map P2.a) ((some v_one).map P2.b))) (b2 mulI ((some v_one).map P2.b) ((some v_other).map P2.b))))
def f_check_unread (v_book : BookT) (v_unread : (List Int)) (v_verse : Int) : Option Unit := finN (S := Unit) 
  (b1 (fun _ => (bindF (S1 := Unit) (iteM (b2 notInM (some v_verse) (b2 f_rising (some v_book) (some v_unread)))
    none
    (some (Fl.nx ()))) fun s1 => (some (Fl.nx ())))) (b2 f_check_verse (some v_book) (some v_verse)))
def f_chance_behind (v_others : (List Int)) : Option (P2 Int Int) := finF (S := Unit) (R := (P2 Int Int)) 
  (b1 (fun r => some (Fl.rt r)) (b2 f_part (some (1 : Int)) (b2 addI (b1 lenL (some v_others)) (some (1 : Int)))))
def f_mean_size (v_sizes : (List Int)) : Option (P2 Int Int) := finF (S := Unit) (R := (P2 Int Int)) 
  (b1 (fun v_total => (bindF (S1 := (P2 Int Int)) (b1 (fun xs => forF (fun x2 s1 => (b1 (fun v_many => (b1 (fun v_total => (some (Fl.nx v_total)))
    (b2 f_plus (some s1) (b2 f_part (some v_many) (b2 addI (some v_many) (some (1 : Int)))))))
    (b1 lenL (b1 (lcM fun x4 => lcE (b2 geI (some x4) (some x2)) (some x4)) (some v_sizes))))) xs v_total) (b1 rngM (b2 addI (b2 mxD (some v_sizes) (b1 negI (some (1 : Int)))) (some (1 : Int))))) fun s1 => (b1 (fun r => some (Fl.rt r)) (some s1))))
    (some (⟨0, 1⟩ : P2 Int Int)))
def f_sizes_shared (v_book : BookT) (v_verse : Int) (v_others : (List Int)) : Option (List Int) := finF (S := Unit) (R := (List Int)) 
  (b1 (fun r => some (Fl.rt r)) (b1 (lcM fun x1 => lcE (some true) (b3 f_shared (some v_book) (some v_verse) (some x1))) (some v_others)))
def f_decided_by (v_book : BookT) (v_unread : (List Int)) (v_verse : Int) (v_size : Int) : Option (P2 Int Int) := finF (S := Unit) (R := (P2 Int Int)) 
  (b1 (fun _ => (b1 (fun r => some (Fl.rt r)) (b1 f_chance_behind (b4 f_rivals (some v_book) (some v_unread) (some v_verse) (some v_size))))) (b3 f_check_unread (some v_book) (some v_unread) (some v_verse)))
def f_mean_decided (v_book : BookT) (v_unread : (List Int)) (v_verse : Int) : Option (P2 Int Int) := finF (S := Unit) (R := (P2 Int Int)) 
  (b1 (fun _ => (b1 (fun r => some (Fl.rt r)) (b1 f_mean_size (b3 f_sizes_shared (some v_book) (some v_verse) (b4 f_rivals (some v_book) (some v_unread) (some v_verse) (some (0 : Int))))))) (b3 f_check_unread (some v_book) (some v_unread) (some v_verse)))
def f_law_measure (v_law_one : Int) (v_law_other : Int) : Option Int := finF (S := Unit) (R := Int) 
  (b1 (fun v_law_one => (b1 (fun v_law_other => (bindF (S1 := Int × Int) (whileF (fun s1 => (b2 neM (some s1.2) (some (0 : Int)))) (fun s1 => (b2 (fun v_law_one v_law_other => (some (Fl.nx (v_law_one, v_law_other)))) (some s1.2) (b2 modI (some s1.1) (some s1.2)))) fuelN (v_law_one, v_law_other)) fun s1 => (b1 (fun r => some (Fl.rt r)) (some s1.1))))
    (b1 absM (some v_law_other))))
    (b1 absM (some v_law_one)))
def f_law_part (v_law_top : Int) (v_law_bottom : Int) : Option (P2 Int Int) := finF (S := Unit) (R := (P2 Int Int)) 
  (b1 (fun v_law_by => (bindF (S1 := Int) (iteM (b2 ltI (some v_law_bottom) (some (0 : Int)))
    (b1 (fun v_law_by => (some (Fl.nx v_law_by)))
    (b1 negI (some v_law_by)))
    (some (Fl.nx v_law_by))) fun s1 => (b1 (fun r => some (Fl.rt r)) (b2 mk2 (b2 divZ (some v_law_top) (some s1)) (b2 divZ (some v_law_bottom) (some s1))))))
    (b2 f_law_measure (some v_law_top) (some v_law_bottom)))
def f_law_sum (v_law_one : (P2 Int Int)) (v_law_other : (P2 Int Int)) : Option (P2 Int Int) := finF (S := Unit) (R := (P2 Int Int)) 
  (b1 (fun r => some (Fl.rt r)) (b2 f_law_part (b2 addI (b2 mulI ((some v_law_one).map P2.a) ((some v_law_other).map P2.b)) (b2 mulI ((some v_law_other).map P2.a) ((some v_law_one).map P2.b))) (b2 mulI ((some v_law_one).map P2.b) ((some v_law_other).map P2.b))))
def f_law_once (v_law_many : Int) (v_law_unread_here : (List Int)) : Option (List Int) := finF (S := Unit) (R := (List Int)) 
  (b1 (fun r => some (Fl.rt r)) (b1 (lcM fun x1 => lcE (b2 inM (some x1) (some v_law_unread_here)) (some x1)) (b1 rngM (some v_law_many))))
end Kj

set_option Elab.async false
set_option linter.all false
set_option maxRecDepth 100000
set_option maxHeartbeats 4000000
/-! Kj46: tuples of any length; the items of a list of one's own. -/
namespace Kj
open PySem PySem.SeqAt PySem.W PyProof.Rows L2
structure Tp (α : Type) where
  items : List α
  deriving DecidableEq
instance {α : Type} [Enc α] : Enc (Tp α) := ⟨fun x => .tuple (x.items.map en), fun x => by simp only [PyData.plain]; exact plain_map x.items, Enc.dep α + 1, fun x => by have := depth_map x.items; simp only [PyData.depth]; omega, fun x y => by
  simp only [PyData.eqv]
  rw [eqv_map x.items y.items]
  cases x; cases y
  simp⟩
instance {α : Type} [Enc α] : EncN (Tp α) := ⟨fun x => ⟨by show PyData.eqv .none (.tuple _) = false; simp [PyData.eqv], by show PyData.eqv (.tuple _) .none = false; simp [PyData.eqv], rfl⟩⟩
def tupM {α : Type} (xs : List α) : Option (Tp α) := some ⟨xs⟩
def listTM {α : Type} (x : Tp α) : Option (List α) := some x.items
def lenTM {α : Type} (x : Tp α) : Option Int := some (x.items.length : Int)
section
variable {H0 : Hp} {ρ : List Slot} {K : PySem.W.Frag} {f fa fb : Bool} {te ta tb : TE} {α : Type} {mj : Option Int}
/-- an item of a list of one's own -/
theorem dm_ixOwn [Enc α] {i : Nat} {xs : List α} (hi : ρ[i]? = some (.own (oE K xs))) (hb : DM H0 ρ tb fb (aE K) mj) : DM H0 ρ (tOp (rIxL K) (tVar i) tb) true (aE K) (b2 atI (some xs) mj) := fun x e => by
  obtain ⟨ys, j, h1, h2, h3⟩ := b2_some e
  cases h1
  intro σ H Hr Q E k
  obtain ⟨p, o, e1, e2, e3, e4, vs, rfl, e6⟩ := E.slot i _ hi
  refine ⟨_, e1, hb j h2 σ H Hr _ E fun y H2 Hr2 x2 a2 => ?_⟩
  cases a2
  have h3' : atI (xs.map en) j = some (en x) := by
    unfold atI at h3 ⊢
    rw [List.length_map]
    cases q : ixN xs.length j with
    | none => rw [q] at h3; cases h3
    | some n =>
      rw [q] at h3
      have h' : xs[n]? = some x := h3
      show (xs.map en)[n]? = some (en x)
      rw [List.getElem?_map, h']; rfl
  obtain ⟨v, hv, hd'⟩ := atI_dp (dpa_mono (mns_mono H0 x2.r) _ _ e6) h3'
  exact ⟨_, _, j, v, rfl, rfl, SqL.of (x2.h _ _ e4), hv, k v H2 Hr2 x2 hd'⟩
end
end Kj

set_option Elab.async false
set_option linter.all false
set_option maxRecDepth 100000
set_option maxHeartbeats 4000000
namespace Kj
open PySem L2
def f_coming_behind (v_deal : DealT) (v_unread : (List Int)) (v_beginning : (Tp Str)) : Option (List Int) := finF (S := Unit) (R := (List Int)) 
  (b1 (fun r => some (Fl.rt r)) (b3 f_meeting (b1 f_Deal_book (some v_deal) ) (some v_unread) (b1 listTM (some v_beginning))))
def f_is_there (v_deal : DealT) (v_sweep : (P4 Int Int Int Int)) : Option Bool := finF (S := Unit) (R := Bool) 
  (bindF (S1 := Unit) ((b1 (fun _ => (some (Fl.nx ()))) (b2 f_check_sweep (some v_deal) (some v_sweep)))) fun s1 => (b1 (fun r => some (Fl.rt r)) (some true)))
def f_check_plan (v_deal : DealT) (v_unread : (List Int)) (v_plan : (List (P2 (Tp Str) (P4 Int Int Int Int)))) : Option Unit := finN (S := Unit) 
  (b1 (fun _ => (bindF (S1 := Unit) (b1 (fun xs => forF (fun x2 s1 => (bindF (S1 := Unit) (iteM (orM (notM ((b3 f_coming_behind (some v_deal) (some v_unread) (some x2.b.a)).map fun xs => !xs.isEmpty)) (notM (b2 f_is_there (some v_deal) (some x2.b.b))))
    none
    (some (Fl.nx ()))) fun s4 => (some (Fl.nx ())))) xs ()) (b1 enumM (some v_plan))) fun s1 => (some (Fl.nx ())))) (b2 f_rising (b1 f_Deal_book (some v_deal) ) (some v_unread)))
def f_judged (v_deal : DealT) (v_unread : (List Int)) (v_plan : (List (P2 (Tp Str) (P4 Int Int Int Int)))) : Option (Option (P2 Int Int)) := finF (S := Unit) (R := (Option (P2 Int Int))) 
  (b1 (fun _ => (bindF (S1 := Unit) (b1 (fun xs => forF (fun x2 s1 => (b1 (fun v_wronged => (bindF (S1 := Unit) (iteM ((some v_wronged).map fun xs => !xs.isEmpty)
    (b1 (fun r => some (Fl.rt r)) ((b2 mk2 (some x2.a) (b2 atI (some v_wronged) (some (0 : Int)))).map some))
    (some (Fl.nx ()))) fun s4 => (some (Fl.nx ()))))
    (b3 f_strays (some v_deal) (b3 f_coming_behind (some v_deal) (some v_unread) (some x2.b.a)) ((some x2.b.b).map P4.a)))) xs ()) (b1 enumM (some v_plan))) fun s1 => (b1 (fun r => some (Fl.rt r)) (some (none : (Option (P2 Int Int))))))) (b3 f_check_plan (some v_deal) (some v_unread) (some v_plan)))
def f_law_meet6 (v_law_verses : (List (List Str))) (v_law_unread_here : (List Int)) (v_law_heard : (List Str)) : Option (List Int) := finF (S := Unit) (R := (List Int)) 
  (b1 (fun v_law_size => (b1 (fun r => some (Fl.rt r)) (b1 (lcM fun x1 => lcE (andM (b2 inM (some x1) (some v_law_unread_here)) (b2 eqM (b3 cutM (b2 atI (some v_law_verses) (some x1)) noneM (someM (some v_law_size))) (some v_law_heard))) (some x1)) (b1 rngM (b1 lenL (some v_law_verses))))))
    (b1 lenL (some v_law_heard)))
def f_law_some_verse (v_law_verses : (List (List Str))) (v_law_unread_here : (List Int)) (v_law_number : Int) : Option Int := finF (S := Unit) (R := Int) 
  (bindF (S1 := Unit) (iteM (andM (b2 neM (some v_law_unread_here) (b1 shortM (some ([] : List Int)))) (b2 gtI (b2 modI (some v_law_number) (some (4 : Int))) (some (0 : Int))))
    (b1 (fun r => some (Fl.rt r)) (b2 atI (some v_law_unread_here) (b2 modI (b2 divI (some v_law_number) (some (4 : Int))) (b1 lenL (some v_law_unread_here)))))
    (some (Fl.nx ()))) fun s1 => (b1 (fun r => some (Fl.rt r)) (b2 modI (b2 divI (some v_law_number) (some (4 : Int))) (b1 lenL (some v_law_verses)))))
def f_law_sweep_bad (v_law_rows : (List (List (List Int)))) (v_law_sweep : (P4 Int Int Int Int)) : Option Str := finF (S := Unit) (R := Str) 
  (bindF (S1 := Unit) (iteM (orM (notM (chM leI leI (some (0 : Int)) ((some v_law_sweep).map P4.a) (some (1 : Int)))) (notM (chM leI ltI (some (0 : Int)) ((some v_law_sweep).map P4.b) (b1 lenL (b2 atI (some v_law_rows) ((some v_law_sweep).map P4.a))))))
    (b1 (fun r => some (Fl.rt r)) (some ("NoField" : Str)))
    (some (Fl.nx ()))) fun s1 => (bindF (S1 := Unit) (iteM (notM (chM3 leI leI ltI (some (0 : Int)) ((some v_law_sweep).map P4.c) ((some v_law_sweep).map P4.d) (b1 lenL (b2 atI (b2 atI (some v_law_rows) ((some v_law_sweep).map P4.a)) ((some v_law_sweep).map P4.b)))))
    (b1 (fun r => some (Fl.rt r)) (some ("NoCard" : Str)))
    (some (Fl.nx ()))) fun s2 => (b1 (fun r => some (Fl.rt r)) (some ("" : Str)))))
def f_law_pair_of (v_law_verses : (List (List Str))) (v_law_rows : (List (List (List Int)))) (v_law_unread_here : (List Int)) (v_law_d : (List Int)) (v_law_careful : Bool) : Option (Option (P2 (Tp Str) (P4 Int Int Int Int))) := finF (S := Unit) (R := (Option (P2 (Tp Str) (P4 Int Int Int Int)))) 
  (b1 (fun v_law_verse_here => (b1 (fun v_law_size => (b1 (fun v_law_some => (b1 (fun v_law_home_here => (bindF (S1 := Int × (List (P4 Int Int Int Int))) (iteM (andM (some v_law_careful) (b2 geI (some v_law_home_here) (some (0 : Int))))
    (b1 (fun v_law_size => (b1 (fun v_law_some => (some (Fl.nx (v_law_size, v_law_some))))
    (b1 (lcM fun x3 => lcE (b2 eqM ((some x3).map P4.a) (some v_law_home_here)) (some x3)) (some v_law_some))))
    (b2 maxI (some v_law_size) (b4 f_law_moment (some v_law_verses) (some v_law_rows) (some v_law_unread_here) (some v_law_verse_here))))
    (some (Fl.nx (v_law_size, v_law_some)))) fun s2 => (bindF (S1 := Unit) (iteM (orM (andM (some v_law_careful) (b2 ltI (some v_law_home_here) (some (0 : Int)))) (b2 eqM (some s2.2) (b1 shortM (some ([] : List (P4 Int Int Int Int))))))
    (b1 (fun r => some (Fl.rt r)) (some (none : (Option (P2 (Tp Str) (P4 Int Int Int Int))))))
    (some (Fl.nx ()))) fun s4 => (b1 (fun v_law_sweep => (b1 (fun v_law_whole => (bindF (S1 := (P4 Int Int Int Int)) (iteM (andM (b2 gtI (b2 modI (b2 atI (some v_law_d) (some (3 : Int))) (some (3 : Int))) (some (0 : Int))) (b2 neM (some v_law_whole) (b1 shortM (some ([] : List (P4 Int Int Int Int))))))
    (b1 (fun v_law_sweep => (some (Fl.nx v_law_sweep)))
    (b2 atI (some v_law_whole) (b2 modI (b2 atI (some v_law_d) (some (2 : Int))) (b1 lenL (some v_law_whole)))))
    (some (Fl.nx v_law_sweep))) fun s5 => (b1 (fun r => some (Fl.rt r)) ((b2 mk2 (b1 tupM (b3 cutM (b2 atI (some v_law_verses) (some v_law_verse_here)) noneM (someM (some s2.1)))) (some s5)).map some))))
    (b2 f_law_cover (some v_law_rows) (b3 f_law_meet6 (some v_law_verses) (some v_law_unread_here) (b3 cutM (b2 atI (some v_law_verses) (some v_law_verse_here)) noneM (someM (some s2.1)))))))
    (b2 atI (some s2.2) (b2 modI (b2 atI (some v_law_d) (some (2 : Int))) (b1 lenL (some s2.2))))))))
    (b2 f_law_home (some v_law_rows) (some v_law_verse_here))))
    (b1 f_law_sweeps (some v_law_rows))))
    (b2 modI (b2 atI (some v_law_d) (some (1 : Int))) (b2 addI (b1 lenL (b2 atI (some v_law_verses) (some v_law_verse_here))) (some (1 : Int))))))
    (b3 f_law_some_verse (some v_law_verses) (some v_law_unread_here) (b2 atI (some v_law_d) (some (0 : Int)))))
def f_law_plan (v_law_verses : (List (List Str))) (v_law_rows : (List (List (List Int)))) (v_law_unread_here : (List Int)) (v_law_d : (List Int)) (v_law_careful : Bool) : Option (List (P2 (Tp Str) (P4 Int Int Int Int))) := finF (S := Unit) (R := (List (P2 (Tp Str) (P4 Int Int Int Int)))) 
  (b1 (fun v_law_plan_here => (bindF (S1 := (List (P2 (Tp Str) (P4 Int Int Int Int)))) (b1 (fun xs => forF (fun x2 s1 => (b1 (fun v_law_pair => (bindF (S1 := (List (P2 (Tp Str) (P4 Int Int Int Int)))) (iteM ((some v_law_pair).map Option.isSome)
    (b1 (fun x => appM s1 x fun v_law_plan_here => (some (Fl.nx v_law_plan_here))) ((some v_law_pair).bind id))
    (some (Fl.nx s1))) fun s4 => (some (Fl.nx s4))))
    (b5 f_law_pair_of (some v_law_verses) (some v_law_rows) (some v_law_unread_here) (b3 cutM (some v_law_d) (someM (b2 addI (some (2 : Int)) (b2 mulI (some (4 : Int)) (some x2)))) noneM) (some v_law_careful)))) xs v_law_plan_here) (b1 rngM (b2 modI (b2 atI (some v_law_d) (some (0 : Int))) (some (8 : Int))))) fun s1 => (bindF (S1 := (List (P2 (Tp Str) (P4 Int Int Int Int)))) (iteM (andM (b2 neM (some s1) (b1 shortM (some ([] : List (P2 (Tp Str) (P4 Int Int Int Int)))))) (b2 eqM (b2 modI (b2 atI (some v_law_d) (some (1 : Int))) (some (5 : Int))) (some (4 : Int))))
    (b1 (fun x => appM s1 x fun v_law_plan_here => (some (Fl.nx v_law_plan_here))) (b2 atI (some s1) (b2 modI (b2 divI (b2 atI (some v_law_d) (some (1 : Int))) (some (5 : Int))) (b1 lenL (some s1)))))
    (some (Fl.nx s1))) fun s5 => (b1 (fun r => some (Fl.rt r)) (some s5))))) (some ([] : (List (P2 (Tp Str) (P4 Int Int Int Int))))))
def f_law_plan_bad (v_law_verses : (List (List Str))) (v_law_rows : (List (List (List Int)))) (v_law_unread_here : (List Int)) (v_law_plan_here : (List (P2 (Tp Str) (P4 Int Int Int Int)))) : Option Int := finF (S := Unit) (R := Int) 
  (bindF (S1 := Unit) (b1 (fun xs => forF (fun x2 s1 => (bindF (S1 := Unit) (iteM (orM (b2 eqM (b3 f_law_meet6 (some v_law_verses) (some v_law_unread_here) (b1 listTM (some x2.b.a))) (b1 shortM (some ([] : List Int)))) (b2 neM (b2 f_law_sweep_bad (some v_law_rows) (some x2.b.b)) (some ("" : Str))))
    (b1 (fun r => some (Fl.rt r)) (some x2.a))
    (some (Fl.nx ()))) fun s4 => (some (Fl.nx ())))) xs ()) (b1 enumM (some v_law_plan_here))) fun s1 => (b1 (fun r => some (Fl.rt r)) (b1 negI (some (1 : Int)))))
def f_law_good_plan (v_law_verses : (List (List Str))) (v_law_rows : (List (List (List Int)))) (v_law_unread_here : (List Int)) (v_law_d : (List Int)) (v_law_careful : Bool) : Option (List (P2 (Tp Str) (P4 Int Int Int Int))) := finF (S := Unit) (R := (List (P2 (Tp Str) (P4 Int Int Int Int)))) 
  (b1 (fun v_law_plan_here => (b1 (fun r => some (Fl.rt r)) (b1 (lcM fun x1 => lcE (b2 ltI (b4 f_law_plan_bad (some v_law_verses) (some v_law_rows) (some v_law_unread_here) (b1 shortM (b2 consM (some x1) (some ([] : List (P2 (Tp Str) (P4 Int Int Int Int))))))) (some (0 : Int))) (some x1)) (some v_law_plan_here))))
    (b5 f_law_plan (some v_law_verses) (some v_law_rows) (some v_law_unread_here) (some v_law_d) (some v_law_careful)))
def f_law_judged (v_law_verses : (List (List Str))) (v_law_rows : (List (List (List Int)))) (v_law_unread_here : (List Int)) (v_law_plan_here : (List (P2 (Tp Str) (P4 Int Int Int Int)))) : Option (Option (P2 Int Int)) := finF (S := Unit) (R := (Option (P2 Int Int))) 
  (bindF (S1 := Unit) (b1 (fun xs => forF (fun x2 s1 => (bindF (S1 := Unit) (b1 (fun xs => forF (fun x8 s7 => (bindF (S1 := Unit) (iteM (b2 neM (b2 f_law_home (some v_law_rows) (some x8)) ((some x2.b.b).map P4.a))
    (b1 (fun r => some (Fl.rt r)) ((b2 mk2 (some x2.a) (some x8)).map some))
    (some (Fl.nx ()))) fun s10 => (some (Fl.nx ())))) xs ()) (b3 f_law_meet6 (some v_law_verses) (some v_law_unread_here) (b1 listTM (some x2.b.a)))) fun s7 => (some (Fl.nx ())))) xs ()) (b1 enumM (some v_law_plan_here))) fun s1 => (b1 (fun r => some (Fl.rt r)) (some (none : (Option (P2 Int Int))))))
end Kj

set_option Elab.async false
set_option linter.all false
set_option maxRecDepth 100000
set_option maxHeartbeats 4000000
/-! Kj47: (). -/
namespace Kj
open PySem PySem.SeqAt PySem.W PyProof.Rows L2
section
variable {H0 : Hp} {ρ : List Slot} {K : PySem.W.Frag} {α : Type}
end
end Kj

set_option Elab.async false
set_option linter.all false
set_option maxRecDepth 100000
set_option maxHeartbeats 4000000
/-! Kj48: programs of what may raise. -/
namespace Kj
open PySem L2
def outOf (K : PySem.W.Frag) {R : Type} (A : R → Abs) : Rs R → Out
  | .ok r => .ret (A r)
  | .ex e => .exc (xP K e)
section
variable {α β γ δ ε ζ η : Type}
def sx1 (K : PySem.W.Frag) (A : α → Abs) (R : γ → Abs) (F : α → Option (Rs γ)) : SpecX := fun As O => ∃ a o, As = [A a] ∧ F a = some o ∧ O = outOf K R o
def sx2 (K : PySem.W.Frag) (A : α → Abs) (B : β → Abs) (R : γ → Abs) (F : α → β → Option (Rs γ)) : SpecX := fun As O => ∃ a b o, As = [A a, B b] ∧ F a b = some o ∧ O = outOf K R o
def sx3 (K : PySem.W.Frag) (A : α → Abs) (B : β → Abs) (D : δ → Abs) (R : γ → Abs) (F : α → β → δ → Option (Rs γ)) : SpecX := fun As O => ∃ a b d o, As = [A a, B b, D d] ∧ F a b d = some o ∧ O = outOf K R o
def sx4 (K : PySem.W.Frag) (A : α → Abs) (B : β → Abs) (D : δ → Abs) (E : ε → Abs) (R : γ → Abs) (F : α → β → δ → ε → Option (Rs γ)) : SpecX := fun As O => ∃ a b d e o, As = [A a, B b, D d, E e] ∧ F a b d e = some o ∧ O = outOf K R o
def sx5 (K : PySem.W.Frag) (A : α → Abs) (B : β → Abs) (D : δ → Abs) (E : ε → Abs) (G : ζ → Abs) (R : γ → Abs) (F : α → β → δ → ε → ζ → Option (Rs γ)) : SpecX := fun As O => ∃ a b d e g o, As = [A a, B b, D d, E e, G g] ∧ F a b d e g = some o ∧ O = outOf K R o
end
/-- ways of an expression -/
def DMx (W : WX) (K : PySem.W.Frag) (H0 : Hp) (ρ : List Slot) (t : TE) (f : Bool) {α : Type} (A : α → Abs) (m : Option (Rs α)) : Prop := (∀ x, m = some (.ok x) → DE H0 ρ t f (A x)) ∧ ∀ e, m = some (.ex e) → RE W H0 ρ t (xP K e)
def RT (W : WX) (H0 : Hp) (ρ : List Slot) (t : TT) (X : XA) : Prop := ∀ (σ : St) (H Hr : Hp) (Q : Bool → Hp → Prop), EnvOk H0 σ ρ H Hr → (∀ cls d H' Hr', Ext H Hr H' Hr' → X cls d H' → W cls d σ H') → t σ H Q
def RI (W : WX) (H0 : Hp) (ρ : List Slot) (t : TI) (X : XA) : Prop := ∀ (σ : St) (H Hr : Hp) (Q : It → Hp → Prop), EnvOk H0 σ ρ H Hr → (∀ cls d H' Hr', Ext H Hr H' Hr' → X cls d H' → W cls d σ H') → t σ H Q
def DTx (W : WX) (K : PySem.W.Frag) (H0 : Hp) (ρ : List Slot) (t : TT) (m : Option (Rs Bool)) : Prop := (∀ b, m = some (.ok b) → DT K H0 ρ t b) ∧ ∀ e, m = some (.ex e) → RT W H0 ρ t (xP K e)
def DWx (W : WX) (K : PySem.W.Frag) (H0 : Hp) (ρ : List Slot) (wi : TI) (f : Bool) {α : Type} (A : α → Abs) (m : Option (Rs (List α))) : Prop := (∀ xs, m = some (.ok xs) → DW H0 ρ wi xs.length f (fun i => match xs[i]? with | some x => A x | none => aNo)) ∧ ∀ e, m = some (.ex e) → RI W H0 ρ wi (xP K e)
def rsM {α β : Type} (g : Option α → Option β) (m : Option (Rs α)) : Option (Rs β) := m.bind fun r => match r with | .ok x => (g (some x)).map .ok | .ex e => some (.ex e)
def bX {α S R : Type} (k : α → Option (Fl S R)) (m : Option (Rs α)) : Option (Fl S R) := m.bind fun r => match r with | .ok x => k x | .ex e => some (.ex e)
section
variable {α β : Type} {x : α} {e : Exn}
@[simp] theorem rsM_ok {g : Option α → Option β} : rsM g (some (.ok x)) = (g (some x)).map .ok := rfl
@[simp] theorem rsM_ex {g : Option α → Option β} : rsM g (some (.ex e)) = some (.ex e) := rfl
@[simp] theorem bX_ok {S R : Type} {k : α → Option (Fl S R)} : bX k (some (.ok x)) = k x := rfl
@[simp] theorem bX_ex {S R : Type} {k : α → Option (Fl S R)} : bX k (some (.ex e)) = some (.ex e) := rfl
theorem rsM_okI {g : Option α → Option β} {m : Option (Rs α)} {y : β} (h : rsM g m = some (.ok y)) : ∃ x, m = some (.ok x) ∧ g (some x) = some y := by
  cases m with
  | none => cases h
  | some r =>
    cases r with
    | ok x =>
      have h' : (g (some x)).map Rs.ok = some (.ok y) := h
      obtain ⟨z, h1, h2⟩ := Option.map_eq_some_iff.mp h'
      cases h2
      exact ⟨x, rfl, h1⟩
    | ex e => cases h
theorem rsM_exI {g : Option α → Option β} {m : Option (Rs α)} (h : rsM g m = some (.ex e)) : m = some (.ex e) := by
  cases m with
  | none => cases h
  | some r =>
    cases r with
    | ok x =>
      have h' : (g (some x)).map Rs.ok = some (.ex e) := h
      obtain ⟨z, h1, h2⟩ := Option.map_eq_some_iff.mp h'
      cases h2
    | ex e' => cases h; rfl
end
section
variable {W : WX} {H0 : Hp} {ρ ρ' : List Slot} {K : PySem.W.Frag} {f f' fa fb fc fd fe : Bool} {te t' ta tb tc td : TE} {X : XA} {α β γ δ ε ζ : Type} {A : α → Abs} {B : β → Abs} {C : γ → Abs} {D : δ → Abs} {E' : ε → Abs} {G : ζ → Abs}
/-! ### where it stands -/
theorem dx_ctx {m : Option (Rs α)} {g : Option α → Option β} (h : DMx W K H0 ρ te f A m) (hF : ∀ mz, DM H0 ρ te f A mz → DM H0 ρ t' f' B (g mz)) (hR : ∀ Y, RE W H0 ρ te Y → RE W H0 ρ t' Y) : DMx W K H0 ρ t' f' B (rsM g m) :=
  ⟨fun y e => by
    obtain ⟨x, h1, h2⟩ := rsM_okI e
    exact hF (some x) (fun x' e' => by cases e'; exact h.1 x h1) y h2, fun e q => hR _ (h.2 e (rsM_exI q))⟩
theorem re_lenc (h : RE W H0 ρ te X) {F : List V → Hp → VK → Prop} : RE W H0 ρ (tCB F (tCons te tNil)) X := fun σ H Hr Q E k => h σ H Hr _ E k
theorem rt_test (h : RE W H0 ρ te X) : RT W H0 ρ (tTest te) X := fun σ H Hr Q E k => h σ H Hr _ E k
theorem rt_not {t : TT} (h : RT W H0 ρ t X) : RT W H0 ρ (tNot t) X := fun σ H Hr Q E k => h σ H Hr _ E k
theorem dtx_test {m : Option (Rs Bool)} (h : DMx W K H0 ρ te fa (aE K) m) : DTx W K H0 ρ (tTest te) m := ⟨fun b e => dt_test (h.1 b e), fun e q => rt_test (h.2 e q)⟩
def rsN (m : Option (Rs Bool)) : Option (Rs Bool) := m.map fun r => match r with | .ok b => .ok (!b) | .ex e => .ex e
theorem dtx_not {t : TT} {m : Option (Rs Bool)} (h : DTx W K H0 ρ t m) : DTx W K H0 ρ (tNot t) (rsN m) := by
  refine ⟨fun b e => ?_, fun e q => ?_⟩
  · obtain ⟨r, h1, h2⟩ := Option.map_eq_some_iff.mp e
    cases r with
    | ok c => cases h2; exact dt_not (h.1 c h1)
    | ex x => cases h2
  · obtain ⟨r, h1, h2⟩ := Option.map_eq_some_iff.mp q
    cases r with
    | ok c => cases h2
    | ex x => cases h2; exact rt_not (h.2 e h1)
/-- a chain of two comparisons whose last part may raise -/
def chXM (g g' : Int → Int → Bool) (ma mb : Option Int) (mc : Option (Rs Int)) : Option (Rs Bool) := ma.bind fun i => mb.bind fun j => if g i j = true then mc.map (fun r => match r with | .ok k => .ok (g' j k) | .ex e => .ex e) else some (.ok false)
theorem dx_chX {g g' : Int → Int → Bool} {ma mb : Option Int} {mc : Option (Rs Int)} (ha : DM H0 ρ ta fa (aE K) ma) (hb : DM H0 ρ tb fb (aE K) mb) (hc : DMx W K H0 ρ tc fc (aE K) mc) :
    DMx W K H0 ρ (tChain (rI0 fun i j => .bl (g i j)) (rI0 fun i j => .bl (g' i j)) ta tb tc) true (aE K) (chXM g g' ma mb mc) := by
  refine ⟨fun y q => ?_, fun e q => ?_⟩
  · obtain ⟨i, h1, q⟩ := Option.bind_eq_some_iff.mp q
    obtain ⟨j, h2, q⟩ := Option.bind_eq_some_iff.mp q
    by_cases hg : g i j = true
    · rw [if_pos hg] at q
      obtain ⟨r, h3, h4⟩ := Option.map_eq_some_iff.mp q
      cases r with
      | ex x => cases h4
      | ok k =>
        cases h4
        have := de_chI (g := g) (g' := g') (f := true) (ha i h1) (hb j h2) (hc.1 k h3)
        rw [hg, Bool.true_and] at this
        exact this
    · rw [if_neg hg] at q
      cases q
      have hg' : g i j = false := by cases z : g i j <;> simp_all
      intro σ H Hr Q E k
      refine ha i h1 σ H Hr _ E fun x H1 Hr1 x1 q1 => hb j h2 σ H1 Hr1 _ (E.ext x1) fun y H2 Hr2 x2 q2 => ?_
      cases q1; cases q2
      refine ⟨i, j, rfl, rfl, g i j, rfl, ?_⟩
      rw [hg', if_neg Bool.false_ne_true]
      exact k _ H2 Hr2 (x1.trans x2) (.bl _)
  · obtain ⟨i, h1, q⟩ := Option.bind_eq_some_iff.mp q
    obtain ⟨j, h2, q⟩ := Option.bind_eq_some_iff.mp q
    by_cases hg : g i j = true
    · rw [if_pos hg] at q
      obtain ⟨r, h3, h4⟩ := Option.map_eq_some_iff.mp q
      cases r with
      | ok k => cases h4
      | ex x =>
        cases h4
        intro σ H Hr Q E k
        refine ha i h1 σ H Hr _ E fun x H1 Hr1 x1 q1 => hb j h2 σ H1 Hr1 _ (E.ext x1) fun y H2 Hr2 x2 q2 => ?_
        cases q1; cases q2
        refine ⟨i, j, rfl, rfl, g i j, rfl, ?_⟩
        rw [hg, if_pos rfl]
        exact hc.2 e h3 σ H2 Hr2 _ ((E.ext x1).ext x2) fun cls d H' Hr' x3 q3 => k cls d H' Hr' ((x1.trans x2).trans x3) q3
    · rw [if_neg hg] at q
      cases q
/-! ### calls -/
theorem dx_of {S : SpecX} {As : List Abs} {t : TA} {m : Option (Rs γ)} (bo : Bo H0 ρ ρ') (hs : ∀ r, m = some r → ∃ As, DA H0 ρ' t false As ∧ S As (outOf K C r)) : DMx W K H0 ρ (tCallS (spX S) (WE W) t) true C m :=
  ⟨fun x e => by
    obtain ⟨As, ha, s⟩ := hs _ e
    exact de_callS bo ha s, fun x e => by
    obtain ⟨As, ha, s⟩ := hs _ e
    exact re_callS bo ha s⟩
theorem dx_call1 {F : α → Option (Rs γ)} {ma : Option α} (bo : Bo H0 ρ ρ') (h1 : DM H0 ρ' ta fa A ma) : DMx W K H0 ρ (tCallS (spX (sx1 K A C F)) (WE W) (tCons ta tNil)) true C (b1 F ma) := dx_of (As := []) bo fun r e => by
  obtain ⟨a, e1, h⟩ := b1_some e
  exact ⟨_, da_cons (h1 a e1) da_nil, a, r, rfl, h, rfl⟩
theorem dx_call2 {F : α → β → Option (Rs γ)} {ma : Option α} {mb : Option β} (bo : Bo H0 ρ ρ') (h1 : DM H0 ρ' ta fa A ma) (h2 : DM H0 ρ' tb fb B mb) : DMx W K H0 ρ (tCallS (spX (sx2 K A B C F)) (WE W) (tCons ta (tCons tb tNil))) true C (b2 F ma mb) := dx_of (As := []) bo fun r e => by
  obtain ⟨a, b, e1, e2, h⟩ := b2_some e
  exact ⟨_, da_cons (h1 a e1) (da_cons (h2 b e2) da_nil), a, b, r, rfl, h, rfl⟩
theorem dx_call3 {F : α → β → δ → Option (Rs γ)} {ma : Option α} {mb : Option β} {md : Option δ} (bo : Bo H0 ρ ρ') (h1 : DM H0 ρ' ta fa A ma) (h2 : DM H0 ρ' tb fb B mb) (h3 : DM H0 ρ' tc fc D md) : DMx W K H0 ρ (tCallS (spX (sx3 K A B D C F)) (WE W) (tCons ta (tCons tb (tCons tc tNil)))) true C (b3 F ma mb md) := dx_of (As := []) bo fun r e => by
  obtain ⟨a, b, d, e1, e2, e3, h⟩ := b3_some e
  exact ⟨_, da_cons (h1 a e1) (da_cons (h2 b e2) (da_cons (h3 d e3) da_nil)), a, b, d, r, rfl, h, rfl⟩
/-! ### methods -/
def tMethX (C : Addr) (m : Str) (sp : Sp) (E : St → XK) (ta : TE) (t : TA) : TE := fun σ H Q => ta σ H fun x H1 => ∃ a dx fs, x = .ref a ∧ H1 a = some (.ins C dx fs) ∧ fs.lookup m = none ∧ t σ H1 fun vs H2 => sp (x :: vs) H2 Q (E σ)
end
section
variable {P : Program} {w : World} {K : PySem.W.Frag} {mg : Str → Option Value} {base : Heap}
def MethAtX (P : Program) (w : World) (K : PySem.W.Frag) (mg : Str → Option Value) (base : Heap) (C : Addr) (m : Str) (k : Nat) (ps : List Str) (sp : Sp) : Prop :=
  ∃ f fd, Cls K C ∧ Meth K C m f ∧ Binds K fd ps [] ∧ FnOk P w K mg base (L2.CX P w) k f fd ps sp
theorem methAtX {x qual m : Str} {C : Addr} {st : Stmt} {f : Addr} {fd : FuncData} {k : Nat} {ps : List Str} {sp : Sp} (F : FnP K x qual st f fd) (c : Cls K C) (hm : Meth K C m f) (G : FnOk P w K mg base (L2.CX P w) k f fd ps sp)
    (h : ∀ (kV doc pm : Value) (an : Option Addr) (cdv ct : Value) (us : List Value), us.length = ps.length → bindArgs (PySem.W.fnOf x qual (defArgs st) (defBody st) (defScope st) .none kV doc pm an cdv ct) ⟨us, []⟩ = pure (ps.zip us)) : MethAtX P w K mg base C m k ps sp :=
  ⟨f, fd, c, hm, F.bindsN h, G⟩
end
section
open PySem.Spec PyProof.Rows
theorem pe_methX {X : Cx} {W : WX} {C : Addr} {k : Nat} {ps : List Str} {sp : Sp} {m : Str} {pos apos : Pos} {o e : Expr} {es : List Expr} {ta : TE} {t : TA} {pl : Sem Bool} (he : PE X o ta) (D : MethAtX X.prog X.w X.K X.mg X.base C m k ps sp) (hr : Room k X.A) (tk : Takes X W) (ha : PA X (e :: es) t)
    (hst : starEach (e :: es) X.env = (false, eval e X.env) :: starEach es X.env := by rfl) (hpl : (backTo pos (starEach es X.env)).any (·.1) = false := by rfl)
    (ht : eval (.Call (.Attribute o m apos) (e :: es) [] pos) X.env = (do
      let ov ← eval o X.env
      standAt apos.atName
      let (f, first) ← holding [ov] (getMethod ov m pl)
      callWith pos f first (backTo pos (starEach (e :: es) X.env)) (backToKw pos (keywordEach [] X.env))) := by rfl) :
    PE X (.Call (.Attribute o m apos) (e :: es) [] pos) (tMethX C m sp (WE W) ta t) := by
  obtain ⟨f, fd, c, hm, hb, F⟩ := D
  refine ⟨fun pins s σ H Q I h => ?_⟩
  refine PySem.W.methodCall_KW (pl := pl) (thn (he.run pins s σ H _ I h) fun u s1 ⟨x, H1, I1, rx, a, dx, fs, ex, ea, l, q⟩ => ?_) ht
  subst ex
  obtain rfl : u = Value.ref a := rx
  refine getmeth_ok I1 ea c hm l ?_
  refine PySem.W.callWith_K (first := [.ref a]) (h₀ := X.base) I1.ok.mod.kin hm.kp (thn (ha.run pos pins s1 σ H1 _ I1 q) fun us s2 ⟨vs, H2, I2, r, q2⟩ => ⟨I2.kIn, ?_⟩) hst hpl
  exact run_fnS (us := .ref a :: us) (vs := .ref a :: vs) F hr hb (passAt tk σ) I2 (.cons rfl r) q2
end
end Kj
namespace Kj
open PySem L2
section
variable {W : WX} {H0 : Hp} {ρ ρ' : List Slot} {K : PySem.W.Frag} {f f' fa fb fc fd fe : Bool} {te t' ta tb tc td : TE} {X : XA} {α β γ δ ε : Type} {B : β → Abs} {R : γ → Abs} {D : δ → Abs} {C : Addr} {O : α → List (Str × Abs)} {m : Str}
theorem de_methX {S : SpecX} {As : List Abs} {Rr : Abs} {t : TA} {fas : List (Str × Abs)} {Ex : St → XK} (h : DE H0 ρ ta fa (aIns C fas)) (hl : fas.lookup m = none) (ha : DA H0 ρ t false As) (hs : S (aIns C fas :: As) (.ret Rr)) : DE H0 ρ (tMethX C m (spX S) Ex ta t) f Rr := fun σ H Hr Q E k => h σ H Hr _ E fun v H1 Hr1 x1 a1 => by
  have a1' := a1
  obtain ⟨a, dx, fs, rfl, e, q⟩ := a1
  refine ⟨a, dx, fs, rfl, ((hp_sub fa).trans x1.s) _ _ e, q.none hl, ha σ H1 Hr1 _ (E.ext x1) fun vs H2 Hr2 x2 a2 => ?_⟩
  refine ⟨_, .ret Rr, hs, .cons ((aIns C fas).mono _ _ _ ((hp_sub fa).trans (x2.r.trans x2.s)) a1') (a2.mono x2.s), fun v H3 s3 r3 => k v H3 _ (Ext.call E.sub (x1.trans x2).h s3) ?_⟩
  have r4 := Rr.mono _ _ _ (joinH_new E.base E.sub (x1.trans x2).h) r3
  cases f
  · exact Rr.mono _ _ _ mns_sub r4
  · exact r4
theorem re_methX {S : SpecX} {As : List Abs} {t : TA} {fas : List (Str × Abs)} (h : DE H0 ρ ta fa (aIns C fas)) (hl : fas.lookup m = none) (ha : DA H0 ρ t false As) (hs : S (aIns C fas :: As) (.exc X)) : RE W H0 ρ (tMethX C m (spX S) (WE W) ta t) X := fun σ H Hr Q E k => h σ H Hr _ E fun v H1 Hr1 x1 a1 => by
  have a1' := a1
  obtain ⟨a, dx, fs, rfl, e, q⟩ := a1
  refine ⟨a, dx, fs, rfl, ((hp_sub fa).trans x1.s) _ _ e, q.none hl, ha σ H1 Hr1 _ (E.ext x1) fun vs H2 Hr2 x2 a2 => ?_⟩
  exact ⟨_, .exc X, hs, .cons ((aIns C fas).mono _ _ _ ((hp_sub fa).trans (x2.r.trans x2.s)) a1') (a2.mono x2.s), fun cls d H3 s3 r3 => k cls d H3 _ (Ext.call E.sub (x1.trans x2).h s3) r3⟩
theorem dx_ofM {S : SpecX} {t : TA} {mm : Option (Rs γ)} (hs : ∀ r, mm = some r → ∃ fas As, DE H0 ρ ta fa (aIns C fas) ∧ fas.lookup m = none ∧ DA H0 ρ t false As ∧ S (aIns C fas :: As) (outOf K R r)) : DMx W K H0 ρ (tMethX C m (spX S) (WE W) ta t) true R mm :=
  ⟨fun x e => by
    obtain ⟨fas, As, h, hl, ha, s⟩ := hs _ e
    exact de_methX h hl ha s, fun x e => by
    obtain ⟨fas, As, h, hl, ha, s⟩ := hs _ e
    exact re_methX h hl ha s⟩
theorem dx_meth1 {F : α → β → Option (Rs γ)} {ma : Option α} {mb : Option β} (h1 : DM H0 ρ ta fa (fun a => aIns C (O a)) ma) (h2 : DM H0 ρ tb fb B mb) (hl : ∀ a, (O a).lookup m = none) : DMx W K H0 ρ (tMethX C m (spX (sx2 K (fun a => aIns C (O a)) B R F)) (WE W) ta (tCons tb tNil)) true R (b2 F ma mb) := dx_ofM fun r e => by
  obtain ⟨a, b, e1, e2, h⟩ := b2_some e
  exact ⟨_, _, h1 a e1, hl a, da_cons (h2 b e2) da_nil, a, b, r, rfl, h, rfl⟩
end
/-! ### statements -/
section
variable {G : WK} {H0 : Hp} {ρ ρ' : List Slot} {f : Bool} {te : TE} {α S S1 R : Type} {A : R → Abs} {B : S → List Slot} {t u w : TS} {Ax : α → Abs}
theorem bX_some {k : α → Option (Fl S R)} {m : Option (Rs α)} {fl : Fl S R} (h : bX k m = some fl) : (∃ x, m = some (.ok x) ∧ k x = some fl) ∨ ∃ e, m = some (.ex e) ∧ fl = .ex e := by
  obtain ⟨r, h1, h2⟩ := Option.bind_eq_some_iff.mp h
  cases r with
  | ok x => exact .inl ⟨x, h1, h2⟩
  | ex e => cases h2; exact .inr ⟨e, h1, rfl⟩
theorem ds_re {e : Exn} {N : List Slot → Prop} {Rr : Abs} {F : Ends → V → Hp → St → Prop} (h : RE G.W H0 ρ te (xP G.K e)) (ht : ∀ D σ H, te σ H (fun v H' => F D v H' σ) → t D σ H) : DS ⟨G.W, fun ρ' cls d H => ρ' = ρ ∧ xP G.K e cls d H⟩ H0 ρ t N Rr := fun σ H Hr D E kn kr kx =>
  ht D σ H (h σ H Hr _ E fun cls d H' Hr' x q => kx ρ σ H' Hr' cls d ⟨rfl, q⟩ (E.ext x) x.r)
theorem ds_loose {W : WX} {Z Z' : List Slot → XA} {N : List Slot → Prop} {Rr : Abs} (h : DS ⟨W, Z⟩ H0 ρ t N Rr) (hz : ∀ ρ' cls d H, Z ρ' cls d H → Z' ρ' cls d H) : DS ⟨W, Z'⟩ H0 ρ t N Rr := fun σ H Hr D E kn kr kx => h σ H Hr D E kn kr fun ρ' σ' H' Hr' cls d z E' s => kx ρ' σ' H' Hr' cls d (hz _ _ _ _ z) E' s
theorem db_raise {x : Str} : DB G H0 ρ (tSeq (fun _ σ H => G.W (.ref (He.ga G.K x)) none σ H) u) A (some (.ex ⟨x, []⟩) : Option (Fl S R)) B := fun fl e => by
  cases e
  exact fun σ H Hr D E kn kr kx => kx ρ σ H Hr _ _ ⟨rfl, rfl⟩ E (Same.refl _)
theorem dbx_drop {m : Option (Rs α)} {k : Option (Fl S R)} (h : DMx G.W G.K H0 ρ te f Ax m) (hk : DB G H0 ρ u A k B) : DB G H0 ρ (tSeq (tDrop te) u) A (bX (fun _ => k) m) B := fun fl e => by
  rcases bX_some e with ⟨x, h1, h2⟩ | ⟨x, h1, rfl⟩
  · exact ds_sq (ds_drop (h.1 x h1)) (hk fl h2)
  · exact ds_loose (ds_re (F := fun D v H' σ => u D σ H') (h.2 x h1) fun D σ H q => q) fun _ _ _ _ z => z.2
theorem dbx_if {ct : TT} {mc : Option (Rs Bool)} {m1 m2 : Option (Fl S1 R)} {k : S1 → Option (Fl S R)} {B1 : S1 → List Slot} (hc : DTx G.W G.K H0 ρ ct mc) (h1 : DB G H0 ρ t A m1 B1) (h2 : DB G H0 ρ w A m2 B1) (hk : ∀ s, DB G H0 (B1 s) u A (k s) B) :
    DB G H0 ρ (tSeq (tIfS ct t w) u) A (bindF (bX (fun c => iteM (some c) m1 m2) mc) k) B := by
  refine db_seq (B1 := B1) (fun fl e => ?_) hk
  rcases bX_some e with ⟨c, e1, e2⟩ | ⟨x, e1, rfl⟩
  · refine ds_if (hc.1 c e1) (fun z => ?_) (fun z => ?_)
    · subst z; exact h1 fl e2
    · subst z; exact h2 fl e2
  · exact fun σ H Hr D E kn kr kx => hc.2 x e1 σ H Hr _ E fun cls d H' Hr' x q => kx ρ σ H' Hr' cls d q (E.ext x) x.r
theorem db_finX {K : PySem.W.Frag} {W : WX} {m : Option (Fl S R)} {o : Rs R} {N : List Slot → Prop} (h : DB ⟨W, K⟩ H0 ρ t A m B) (e : finX m = some o) : DS ⟨W, outZ (outOf K A o)⟩ H0 ρ t N (outR (outOf K A o)) := by
  obtain ⟨fl, h1, h2⟩ := Option.bind_eq_some_iff.mp e
  cases fl with
  | nx s => cases h2
  | rt r => cases h2; exact ds_imp (h _ h1) fun r ⟨s, e, _⟩ => by cases e
  | ex x => cases h2; exact ds_imp (h _ h1) fun r ⟨s, e, _⟩ => by cases e
theorem db_finXN {K : PySem.W.Frag} {W : WX} {m : Option (Fl S Unit)} {o : Rs Unit} (h : DB ⟨W, K⟩ H0 ρ t (aE K) m B) (e : finXN m = some o) : DS ⟨W, outZ (outOf K (aE K) o)⟩ H0 ρ t (fun _ => ∀ G, (outR (outOf K (aE K) o)).p .non G) (outR (outOf K (aE K) o)) := by
  obtain ⟨fl, h1, h2⟩ := Option.bind_eq_some_iff.mp e
  cases fl with
  | nx s => cases h2; exact ds_imp (ds_noR (h _ h1)) fun r _ G => .non
  | rt r => cases h2; exact ds_imp (h _ h1) fun r ⟨s, e, _⟩ => by cases e
  | ex x => cases h2; exact ds_imp (h _ h1) fun r ⟨s, e, _⟩ => by cases e
end
/-! ### try -/
def exHit (n c : Str) : Bool := decide (n = c) || decide (c = "SnatchError")
def exmB (K : PySem.W.Frag) (l lc : List Str) : Bool := l.all fun n => lc.all fun c => decide (PySem.W.exmOne K (.ref (He.ga K n)) (.ref (He.ga K c)) = some (exHit n c))
theorem exmB_ok {K : PySem.W.Frag} {l lc : List Str} (h : exmB K l lc = true) {n c : Str} (hn : l.contains n = true) (hc : lc.contains c = true) : PySem.W.exmOne K (.ref (He.ga K n)) (.ref (He.ga K c)) = some (exHit n c) :=
  of_decide_eq_true (List.all_eq_true.mp (List.all_eq_true.mp h n (List.contains_iff_mem.mp hn)) c (List.contains_iff_mem.mp hc))
def hndM {S R : Type} : List (Str × Option (Fl S R)) → Str → Option (Fl S R)
  | [], _ => none
  | (c, p) :: hs, n => if exHit n c = true then p else hndM hs n
def tryM {α S R : Type} (l : List Str) (hs : List (Str × Option (Fl S R))) (ok : α → Option (Fl S R)) (m : Option (Rs α)) : Option (Fl S R) := m.bind fun r => match r with | .ok x => ok x | .ex e => if l.contains e.name = true then hndM hs e.name else none
theorem takes_no {X : Cx} : Takes X (fun _ _ _ _ => False) := fun u s' ⟨_, _, _, _, _, _, _, _, _, _, _, _, _, _, _, _, w⟩ => w.elim
theorem takes_def {P : Program} {w : World} {K : PySem.W.Frag} {mg : Str → Option Value} {base : Heap} {N : List Str} {qual : Str} {scope : Scope} {f : Addr} {cd : Value} {A : Around} {outer : List Env} {s : Shared} {H : Hp} {E : XK} : Takes (cxOf (L2.CX P w) P w K mg base N qual scope f cd A outer s H E) (fun cls d _ H => E cls d H) :=
  takes_of (X := cxOf (L2.CX P w) P w K mg base N qual scope f cd A outer s H E) rfl rfl rfl rfl
section
variable {G : WK} {H0 : Hp} {ρ ρ' : List Slot} {f : Bool} {α S S1 R : Type} {A : R → Abs} {B : S → List Slot} {t u w : TS} {Ax : α → Abs} {B1 : S1 → List Slot}
inductive HL (G : WK) (H0 : Hp) (ρ : List Slot) (lc : List Str) {S1 R : Type} (A : R → Abs) (B1 : S1 → List Slot) : List (Value × (Addr → Value → Option Addr → TS)) → List (Str × Option (Fl S1 R)) → Prop
  | nil : HL G H0 ρ lc A B1 [] []
  | cons {c : Str} {tb : TS} {p : Option (Fl S1 R)} {l : List (Value × (Addr → Value → Option Addr → TS))} {hs : List (Str × Option (Fl S1 R))} : lc.contains c = true → DB G H0 ρ tb A p B1 → HL G H0 ρ lc A B1 l hs → HL G H0 ρ lc A B1 ((.ref (He.ga G.K c), fun _ _ _ => tb) :: l) ((c, p) :: hs)
theorem hl_hnd {lx lc : List Str} (hx : exmB G.K lx lc = true) {e : Exn} (he : lx.contains e.name = true) {fl : Fl S1 R} {d : Option Addr} : ∀ {l : List (Value × (Addr → Value → Option Addr → TS))} {hs : List (Str × Option (Fl S1 R))}, HL G H0 ρ lc A B1 l hs → hndM hs e.name = some fl →
    Hnd G.K (wz G fl) H0 (fun r => ∃ s, fl = .nx s ∧ r = B1 s) (flR A fl) l ρ (.ref (He.ga G.K e.name)) d
  | _, _, .nil, h => by cases h
  | _, _, .cons (c := c) hc hp hl, h => by
    have q := exmB_ok hx he hc
    cases z : exHit e.name c with
    | true =>
      rw [z] at q
      have h' : (if exHit e.name c = true then _ else _) = some fl := h
      rw [z, if_pos rfl] at h'
      exact .here q fun _ => hp fl h'
    | false =>
      rw [z] at q
      have h' : (if exHit e.name c = true then _ else _) = some fl := h
      rw [z, if_neg Bool.false_ne_true] at h'
      exact .next q (hl_hnd hx he hl h')
theorem db_try {ts : WX → TS} {lx lc : List Str} {m : Option (Rs α)} {ok : α → Option (Fl S1 R)} {k : S1 → Option (Fl S R)} {l : List (Value × (Addr → Value → Option Addr → TS))} {hs : List (Str × Option (Fl S1 R))} (hx : exmB G.K lx lc = true)
    (hok : ∀ (W : WX) (x : α), m = some (.ok x) → DB ⟨W, G.K⟩ H0 ρ (ts W) A (ok x) B1) (hokx : ∀ x e, ok x ≠ some (.ex e)) (hex : ∀ (W : WX) (e : Exn) (N : List Slot → Prop) (Rr : Abs), m = some (.ex e) → DS ⟨W, fun ρ' cls d H => ρ' = ρ ∧ xP G.K e cls d H⟩ H0 ρ (ts W) N Rr)
    (hl : HL G H0 ρ lc A B1 l hs) (hk : ∀ s, DB G H0 (B1 s) u A (k s) B) : DB G H0 ρ (tSeq (tTry G.K G.W l ts) u) A (bindF (tryM lx hs ok m) k) B := by
  refine db_seq (B1 := B1) (fun fl e => ?_) hk
  obtain ⟨r, h1, h2⟩ := Option.bind_eq_some_iff.mp e
  cases r with
  | ok x =>
    refine ds_try (Z := fun _ _ _ _ => False) (fun W => ?_) fun _ _ _ _ z => z.elim
    refine ds_loose (hok W x h1 fl h2) fun ρ' cls d H z => ?_
    cases fl with
    | nx s => exact z.elim
    | rt r => exact z.elim
    | ex y => exact (hokx x y h2).elim
  | ex x =>
    have h2 : (if lx.contains x.name = true then hndM hs x.name else none) = some fl := h2
    by_cases hc : lx.contains x.name = true
    · rw [if_pos hc] at h2
      refine ds_try (fun W => hex W x _ _ h1) fun ρ' cls d H' z => ?_
      obtain ⟨rfl, rfl, _⟩ := z
      exact hl_hnd hx hc hl h2
    · rw [if_neg hc] at h2
      cases h2
/-- try: x = e -/
theorem db_tryS {te : WX → TE} {i : Nat} {lx lc : List Str} {m : Option (Rs α)} {s0 : α → S1} {k : S1 → Option (Fl S R)} {l : List (Value × (Addr → Value → Option Addr → TS))} {hs : List (Str × Option (Fl S1 R))} (hx : exmB G.K lx lc = true)
    (h : ∀ W, DMx W G.K H0 ρ (te W) f Ax m) (w0 : ∀ x, Wks (ρ.set i (sl f (Ax x))) (B1 (s0 x))) (hl : HL G H0 ρ lc A B1 l hs) (hk : ∀ s, DB G H0 (B1 s) u A (k s) B) (hi : Nat.blt i ρ.length = true := by rfl) : DB G H0 ρ (tSeq (tTry G.K G.W l fun W => tSeq (tAsg (te W) (gName i)) tNext) u) A (bindF (tryM lx hs (fun x => some (.nx (s0 x))) m) k) B :=
  db_try hx (fun W x e => by
    have := db_set (G := ⟨W, G.K⟩) (A := A) (m := some x) (k := fun x => some (.nx (s0 x))) (fun y z => by cases z; exact (h W).1 x e) (fun y => db_nx (R := R) (w0 y)) hi
    exact this) (fun _ _ z => by cases z) (fun W e N Rr q => ds_re (G := ⟨W, G.K⟩) (F := fun D v H' σ => gName i v σ H' (tNext D)) ((h W).2 e q) fun D σ H z => z) hl hk
end
end Kj

set_option Elab.async false
set_option linter.all false
set_option maxRecDepth 100000
set_option maxHeartbeats 4000000
/-! Kj49: small rules. -/
namespace Kj
open PySem L2
section
variable {H0 : Hp} {ρ : List Slot} {K : PySem.W.Frag} {f fa : Bool} {te : TE}
def listP4 {α : Type} (x : P4 α α α α) : Option (List α) := some [x.a, x.b, x.c, x.d]
theorem dmo_listP4 {α : Type} [Enc α] [Flt α] {m : Option (P4 α α α α)} (h : DM H0 ρ te fa (aE K) m) : DMo K H0 ρ (tCB (fun xs H Q => ∃ p ys, xs = [.ref p] ∧ (SqL K H p ys ∨ SqT K H p ys) ∧ ∀ l, H l = none → Q (.ref l) (upd H l (.lst ys))) (tCons te tNil)) (b1 listP4 m) := fun xs e σ H Hr Q E k => by
  obtain ⟨y, h1, h2⟩ := b1_some e
  cases h2
  refine h _ h1 σ H Hr _ E fun v H1 Hr1 x1 a1 => ?_
  cases a1 with
  | @tup p zs _ hs hA => exact ⟨p, zs, rfl, .inr (seqT ((hp_sub fa).trans x1.s) hs), fun r hn => k r _ H1 Hr1 x1 hn ⟨zs, rfl, dpa_sc (all_flt _) hA⟩⟩
end
/-! ### a walk over two lists that may both raise -/
def rs2 {α β γ : Type} (g : α → β → Option γ) (m : Option (Rs α)) (m' : Option (Rs β)) : Option (Rs γ) := m.bind fun r => match r with
  | .ex e => some (.ex e)
  | .ok x => m'.bind fun r' => match r' with
    | .ex e => some (.ex e)
    | .ok y => (g x y).map .ok
/-! ### while, where the first test may raise -/
def rsO {α : Type} (m : Option (Rs α)) : Option α := m.bind fun r => match r with | .ok x => some x | .ex _ => none
def whileX {S R : Type} (c : S → Option (Rs Bool)) (b : S → Option (Fl S R)) (n : Nat) (s0 : S) : Option (Fl S R) := match c s0 with
  | some (.ex e) => some (.ex e)
  | _ => whileF (fun s => rsO (c s)) b n s0
end Kj

set_option Elab.async false
set_option linter.all false
set_option maxRecDepth 100000
set_option maxHeartbeats 4000000
namespace Kj
open PySem L2
def f_check_verse_x (v_book : BookT) (v_number : Int) : Option (Rs Unit) := finXN (S := Unit) 
  (bindF (S1 := Unit) (iteM (notM (chM leI ltI (some (0 : Int)) (some v_number) (b1 f_Book_many (some v_book) )))
    (some (Fl.ex ⟨"NoVerse", []⟩))
    (some (Fl.nx ()))) fun s1 => (some (Fl.nx ())))
def f_rising_x (v_book : BookT) (v_numbers : (List Int)) : Option (Rs (List Int)) := finX (S := Unit) (R := (List Int)) 
  (bindF (S1 := Unit) (b1 (fun xs => forF (fun x2 s1 => (bX (fun _ => (some (Fl.nx ()))) (b2 f_check_verse_x (some v_book) (some x2)))) xs ()) (some v_numbers)) fun s1 => (b1 (fun r => some (Fl.rt r)) (b1 sortedSetM (some v_numbers))))
def f_meeting_x (v_book : BookT) (v_unread : (List Int)) (v_heard : (List Str)) : Option (Rs (List Int)) := finX (S := Unit) (R := (List Int)) 
  (bX (fun r => some (Fl.rt r)) (rsM (fun mz => (b1 (lcM fun x1 => lcE (b2 f_begins (some v_heard) (b2 f_Book_verse (some v_book) (some x1))) (some x1)) mz)) (b2 f_rising_x (some v_book) (some v_unread))))
def f_check_field_x (v_field : Int) : Option (Rs Unit) := finXN (S := Unit) 
  (bindF (S1 := Unit) (iteM (notM (chM leI leI (some (0 : Int)) (some v_field) (some (1 : Int))))
    (some (Fl.ex ⟨"NoField", []⟩))
    (some (Fl.nx ()))) fun s1 => (some (Fl.nx ())))
def f_Deal_rows_x (v_self : DealT) (v_field : Int) : Option (Rs (List (List Int))) := finX (S := Unit) (R := (List (List Int))) 
  (bX (fun _ => (b1 (fun r => some (Fl.rt r)) (b1 f_copied (b2 atI ((some v_self).map DealT.fields) (some v_field))))) (b1 f_check_field_x (some v_field)))
def f_check_row_x (v_deal : DealT) (v_field : Int) (v_row : Int) : Option (Rs Unit) := finXN (S := Unit) 
  (bindF (S1 := Unit) (bX (fun c => iteM (some c)
    (some (Fl.ex ⟨"NoField", []⟩))
    (some (Fl.nx ()))) (rsN (chXM (fun i j => decide (i ≤ j)) (fun i j => decide (i < j)) (some (0 : Int)) (some v_row) (rsM (fun mz => (b1 lenL mz)) (b2 f_Deal_rows_x (some v_deal) (some v_field)))))) fun s1 => (some (Fl.nx ())))
def f_check_sweep_x (v_deal : DealT) (v_sweep : (P4 Int Int Int Int)) : Option (Rs Unit) := finXN (S := Unit) 
  (b1 (fun x1 => (bX (fun _ => (bindF (S1 := Unit) (iteM (notM (chM3 leI leI ltI (some (0 : Int)) (some x1.c) (some x1.d) (b1 lenL (b2 atI (b2 f_Deal_rows (some v_deal) (some x1.a)) (some x1.b)))))
    (some (Fl.ex ⟨"NoCard", []⟩))
    (some (Fl.nx ()))) fun s2 => (some (Fl.nx ())))) (b3 f_check_row_x (some v_deal) (some x1.a) (some x1.b))))
    (some v_sweep))
def f_Deal_swept_x (v_self : DealT) (v_sweep : (P4 Int Int Int Int)) : Option (Rs (List Int)) := finX (S := Unit) (R := (List Int)) 
  (bX (fun _ => (b1 (fun x1 => (b1 (fun r => some (Fl.rt r)) (b3 cutM (b2 atI (b2 atI ((some v_self).map DealT.fields) (some x1.a)) (some x1.b)) (someM (some x1.c)) (someM (b2 addI (some x1.d) (some (1 : Int)))))))
    (some v_sweep))) (b2 f_check_sweep_x (some v_self) (some v_sweep)))
def f_Deal_where_x (v_self : DealT) (v_verse : Int) : Option (Rs (Option (P3 Int Int Int))) := finX (S := Unit) (R := (Option (P3 Int Int Int))) 
  (bX (fun _ => (bindF (S1 := Unit) (b1 (fun xs => forF (fun x2 s1 => (bindF (S1 := Unit) (b1 (fun xs => forF (fun x8 s7 => (bindF (S1 := Unit) (iteM (b2 inM (some v_verse) (some x8.b))
    (b1 (fun r => some (Fl.rt r)) ((b3 mk3 (some x2.a) (some x8.a) (b2 idxM (some x8.b) (some v_verse))).map some))
    (some (Fl.nx ()))) fun s10 => (some (Fl.nx ())))) xs ()) (b1 enumM (some x2.b))) fun s7 => (some (Fl.nx ())))) xs ()) (b1 enumM ((some v_self).map DealT.fields))) fun s1 => (b1 (fun r => some (Fl.rt r)) (some (none : (Option (P3 Int Int Int))))))) (b2 f_check_verse_x ((some v_self).map DealT.source) (some v_verse)))
def f_card_field_x (v_deal : DealT) (v_verse : Int) : Option (Rs Int) := finX (S := Unit) (R := Int) 
  (bX (fun v_spot => (bindF (S1 := Unit) (iteM ((some v_spot).map Option.isNone)
    (some (Fl.ex ⟨"NoCard", []⟩))
    (some (Fl.nx ()))) fun s1 => (b1 (fun r => some (Fl.rt r)) (((some v_spot).bind id).map P3.a))))
    (b2 f_Deal_where_x (some v_deal) (some v_verse)))
def f_is_fault_x (v_deal : DealT) (v_verse : Int) (v_sweep : (P4 Int Int Int Int)) : Option (Rs Bool) := finX (S := Unit) (R := Bool) 
  (bX (fun v_spot => (bX (fun _ => (b1 (fun r => some (Fl.rt r)) (orM ((some v_spot).map Option.isNone) (b2 neM (((some v_spot).bind id).map P3.a) ((some v_sweep).map P4.a))))) (b2 f_check_sweep_x (some v_deal) (some v_sweep))))
    (b2 f_Deal_where_x (some v_deal) (some v_verse)))
def f_is_taken_x (v_deal : DealT) (v_verse : Int) (v_sweep : (P4 Int Int Int Int)) : Option (Rs Bool) := finX (S := Unit) (R := Bool) 
  (bX (fun _ => (bX (fun r => some (Fl.rt r)) (rsM (fun mz => (b2 inM (some v_verse) mz)) (b2 f_Deal_swept_x (some v_deal) (some v_sweep))))) (b2 f_check_verse_x (b1 f_Deal_book (some v_deal) ) (some v_verse)))
def f_faultless_x (v_deal : DealT) (v_unread : (List Int)) (v_heard : (List Str)) : Option (Rs (List Int)) := finX (S := Unit) (R := (List Int)) 
  (bX (fun v_coming => (b1 (fun r => some (Fl.rt r)) (b1 (lcM fun x1 => lcE (notM ((b3 f_strays (some v_deal) (some v_coming) (some x1)).map fun xs => !xs.isEmpty)) (some x1)) (b1 rngM (some (2 : Int))))))
    (b3 f_meeting_x (b1 f_Deal_book (some v_deal) ) (some v_unread) (some v_heard)))
def f_witness_x (v_deal : DealT) (v_unread : (List Int)) (v_heard : (List Str)) (v_sweep : (P4 Int Int Int Int)) : Option (Rs (Option Int)) := finX (S := Unit) (R := (Option Int)) 
  (bX (fun v_coming => (bX (fun _ => (b1 (fun v_wronged => (b1 (fun r => some (Fl.rt r)) (iteM ((some v_wronged).map fun xs => !xs.isEmpty) ((b2 atI (some v_wronged) (some (0 : Int))).map some) (some (none : (Option Int))))))
    (b3 f_strays (some v_deal) (some v_coming) ((some v_sweep).map P4.a)))) (b2 f_check_sweep_x (some v_deal) (some v_sweep))))
    (b3 f_meeting_x (b1 f_Deal_book (some v_deal) ) (some v_unread) (some v_heard)))
def f_sure_x (v_deal : DealT) (v_unread : (List Int)) (v_heard : (List Str)) : Option (Rs (Option (List (P4 Int Int Int Int)))) := finX (S := Unit) (R := (Option (List (P4 Int Int Int Int)))) 
  (bindF (S1 := Unit) (bX (fun c => iteM (some c)
    (b1 (fun r => some (Fl.rt r)) (some (none : (Option (List (P4 Int Int Int Int))))))
    (some (Fl.nx ()))) (rsN (rsM (fun mz => (mz.map fun xs => !xs.isEmpty)) (b3 f_faultless_x (some v_deal) (some v_unread) (some v_heard))))) fun s1 => (b1 (fun r => some (Fl.rt r)) ((b2 f_Deal_cover (some v_deal) (b3 f_meeting (b1 f_Deal_book (some v_deal) ) (some v_unread) (some v_heard))).map some)))
def f_rivals_x (v_book : BookT) (v_unread : (List Int)) (v_verse : Int) (v_size : Int) : Option (Rs (List Int)) := finX (S := Unit) (R := (List Int)) 
  (bX (fun _ => (bX (fun v_others => (b1 (fun r => some (Fl.rt r)) (b1 (lcM fun x3 => lcE (b2 geI (b3 f_shared (some v_book) (some v_verse) (some x3)) (some v_size)) (some x3)) (some v_others))))
    (rsM (fun mz => (b1 (lcM fun x1 => lcE (b2 neM (some x1) (some v_verse)) (some x1)) mz)) (b2 f_rising_x (some v_book) (some v_unread))))) (b2 f_check_verse_x (some v_book) (some v_verse)))
def f_moment_x (v_deal : DealT) (v_unread : (List Int)) (v_verse : Int) : Option (Rs Int) := finX (S := Unit) (R := Int) 
  (b1 (fun v_book => (bX (fun v_others => (bX (fun v_field => (b1 (fun r => some (Fl.rt r)) (b2 mxD (b1 (lcM fun x1 => lcE (some true) (b2 addI (b3 f_shared (some v_book) (some v_verse) (some x1)) (some (1 : Int)))) (b3 f_strays (some v_deal) (some v_others) (some v_field))) (some (0 : Int)))))
    (b2 f_card_field_x (some v_deal) (some v_verse))))
    (b4 f_rivals_x (some v_book) (some v_unread) (some v_verse) (some (0 : Int)))))
    (b1 f_Deal_book (some v_deal) ))
def f_law_stranger (v_law_number : Int) (v_law_many : Int) : Option Int := finF (S := Unit) (R := Int) 
  (b1 (fun r => some (Fl.rt r)) (b2 atI (b1 shortM (b2 consM (b1 negI (some (1 : Int))) (b2 consM (some v_law_many) (b2 consM (b2 addI (some v_law_many) (some (1 : Int))) (b2 consM (b2 powI (some (10 : Int)) (some (20 : Int))) (b2 consM (b1 negI (b2 powI (some (10 : Int)) (some (20 : Int)))) (some ([] : List Int)))))))) (b2 modI (some v_law_number) (some (5 : Int)))))
def f_law_put_in (v_law_row : (List Int)) (v_law_place : Int) (v_law_thing : Int) : Option (List Int) := finF (S := Unit) (R := (List Int)) 
  (b1 (fun v_law_at => (b1 (fun r => some (Fl.rt r)) (b2 catM (b2 catM (b3 cutM (some v_law_row) noneM (someM (some v_law_at))) (b1 shortM (b2 consM (some v_law_thing) (some ([] : List Int))))) (b3 cutM (some v_law_row) (someM (some v_law_at)) noneM))))
    (b2 modI (some v_law_place) (b2 addI (b1 lenL (some v_law_row)) (some (1 : Int)))))
def f_law_wild (v_law_rows : (List (List (List Int)))) (v_law_d : (List Int)) : Option (P4 Int Int Int Int) := finF (S := Unit) (R := (P4 Int Int Int Int)) 
  (b1 (fun v_law_some => (b1 (fun v_law_sweep => (bindF (S1 := (List Int)) (iteM (andM (b2 neM (some v_law_some) (b1 shortM (some ([] : List (P4 Int Int Int Int))))) (b2 gtI (b2 modI (b2 divI (b2 atI (some v_law_d) (some (0 : Int))) (some (2 : Int))) (some (3 : Int))) (some (0 : Int))))
    (b1 (fun v_law_sweep => (bindF (S1 := (List Int)) (iteM (b2 eqM (b2 modI (b2 divI (b2 atI (some v_law_d) (some (0 : Int))) (some (6 : Int))) (some (3 : Int))) (some (1 : Int)))
    (b1 (fun v_law_at => (b2 (fun v z => setIM v_law_sweep z v fun v_law_sweep => (some (Fl.nx v_law_sweep))) (b2 atI (b1 shortM (b2 consM (b2 subI (b2 atI (some v_law_sweep) (some v_law_at)) (some (1 : Int))) (b2 consM (b2 addI (b2 atI (some v_law_sweep) (some v_law_at)) (some (1 : Int))) (b2 consM (b1 negI (some (1 : Int))) (b2 consM (some (12 : Int)) (b2 consM (b2 powI (some (10 : Int)) (some (20 : Int))) (b2 consM (b2 subI (some (1 : Int)) (b2 atI (some v_law_sweep) (some v_law_at))) (some ([] : List Int))))))))) (b2 modI (b2 atI (some v_law_d) (some (3 : Int))) (some (6 : Int)))) (some v_law_at)))
    (b2 modI (b2 atI (some v_law_d) (some (2 : Int))) (some (4 : Int))))
    (some (Fl.nx v_law_sweep))) fun s3 => (some (Fl.nx s3))))
    (b1 listP4 (b2 atI (some v_law_some) (b2 modI (b2 atI (some v_law_d) (some (1 : Int))) (b1 lenL (some v_law_some))))))
    (some (Fl.nx v_law_sweep))) fun s2 => (b1 (fun r => some (Fl.rt r)) (b4 mk4 (b2 atI (some s2) (some (0 : Int))) (b2 atI (some s2) (some (1 : Int))) (b2 atI (some s2) (some (2 : Int))) (b2 atI (some s2) (some (3 : Int)))))))
    (b1 shortM (b2 consM (b2 modI (b2 atI (some v_law_d) (some (0 : Int))) (some (2 : Int))) (b2 consM (b2 modI (b2 atI (some v_law_d) (some (1 : Int))) (some (4 : Int))) (b2 consM (b2 modI (b2 atI (some v_law_d) (some (2 : Int))) (some (13 : Int))) (b2 consM (b2 modI (b2 atI (some v_law_d) (some (3 : Int))) (some (13 : Int))) (some ([] : List Int)))))))))
    (b1 f_law_sweeps (some v_law_rows)))
end Kj

set_option Elab.async false
set_option linter.all false
set_option maxRecDepth 100000
set_option maxHeartbeats 4000000
/-! Kj50: a new list that holds the caller's own data. -/
namespace Kj
open PySem L2
abbrev SpecO := List Abs → AbsO → Prop
def spRO (S : SpecO) : Sp := fun vs H Q _ => ∃ As B Hr, S As B ∧ Same Hr H ∧ AllP As vs Hr ∧ ∀ p o H' Hr', Ext H Hr H' Hr' → H' p = none → B.p p o Hr' → Q (.ref p) (upd H' p o)
/-- the slot remembers what could be read ahead of all -/
def aKp (Hk : Hp) (A : Abs) : Abs := ⟨fun v G => A.p v G ∧ Same Hk G, fun v G G' s h => ⟨A.mono _ _ _ s h.1, h.2.trans s⟩⟩
/-- a list of its own that was not there before -/
def aFr (Hk : Hp) (B : AbsO) : Abs := ⟨fun v G => ∃ p o, v = .ref p ∧ G p = some o ∧ Hk p = none ∧ B.p p o (rm G p), fun v G G' s ⟨p, o, e, h, n, b⟩ => ⟨p, o, e, s _ _ h, n, B.mono _ _ _ _ (rm_mono p s) b⟩⟩
section
variable {G : WK} {H0 : Hp} {ρ ρ' : List Slot} {K : PySem.W.Frag} {f fa fb fc fd : Bool} {ta tb tc td te : TE} {α β γ δ ε S R : Type} {u : TS}
end
section
variable {P : Program} {w : World} {K : PySem.W.Frag} {mg : Str → Option Value} {base : Heap}
/-- the first slot remembers -/
def keep1 (Hk : Hp) : List Abs → List Slot
  | [] => []
  | A :: As => .new (aKp Hk A) :: As.map Slot.new
end
section
variable {H0 : Hp} {ρ ρ' : List Slot} {K : PySem.W.Frag} {ta tb tc td te : TE} {α β γ δ ε : Type} {A : α → Abs} {B : β → Abs} {D : δ → Abs} {E' : ε → Abs}
def so4 (A : α → Abs) (B : β → Abs) (D : δ → Abs) (E' : ε → Abs) (C : γ → AbsO) (F : α → β → δ → ε → Option γ) : SpecO := fun As O => ∃ a b d e c, As = [A a, B b, D d, E' e] ∧ F a b d e = some c ∧ O = C c
end
section
variable {H0 : Hp} {ρ : List Slot} {f : Bool} {ta tb tc td te tf : TE} {α β δ ε ζ η γ : Type} {A : α → Abs} {B : β → Abs} {D : δ → Abs} {E' : ε → Abs} {G : ζ → Abs} {I : η → Abs} {C : γ → Abs} {ma : Option α} {mb : Option β} {md : Option δ} {me : Option ε} {mg : Option ζ} {mi : Option η} {Ex : XK}
end
end Kj

set_option Elab.async false
set_option linter.all false
set_option maxRecDepth 100000
set_option maxHeartbeats 4000000
/-! Kj51: list(d.items()) of a dict whose keys are tuples. -/
namespace Kj
open PySem PySem.W PySem.Calls PySem.Spec PyProof.Rows PyProof.V L2
section
variable {prog : Program} {w : World} {A : Around} {E : Value → Shared → Prop} {s : Shared} {r d : Addr} {es : Array DictEntry} {ep : Nat}
end
/-- list(e.items()): kvs with the keys' tuples -/
def rItemsLT : V → Hp → VK → Prop := fun x H Q => ∃ (d : Addr) (kvs : List (List Key × V)), x = .ref d ∧ H d = some (.dT kvs) ∧
  ∀ (H' : Hp) (p : Addr) (ts : List Addr) (bs : List (V × V)), (∀ b o, H b = some o → H' b = some o) → H p = none → (∀ t ∈ ts, H t = none) → p ∉ ts → H' p = some (.lst (ts.map V.ref)) →
    Paired (fun (q : List Key × V) (b : V × V) => ∃ a, b.1 = .ref a ∧ H a = some (.tup (q.1.map kV)) ∧ b.2 = q.2) kvs bs → Paired (fun (t : Addr) (b : V × V) => H' t = some (.tup [b.1, b.2])) ts bs → Q (.ref p) H'
def tListItemsT (te : TE) : TE := fun σ H Q => te σ H fun x H1 => rItemsLT x H1 Q
section
variable {X : Cx} {e : Expr} {te : TE} {p apos cpos pos : Pos}
end
end Kj

set_option Elab.async false
set_option linter.all false
set_option maxRecDepth 100000
set_option maxHeartbeats 4000000
/-! Kj52: the place of a list in a list of lists; sum. -/
namespace Kj
open PySem L2
def idxF {α : Type} [DecidableEq α] (v : α) : List α → Option Nat
  | [] => none
  | x :: xs => if x = v then some 0 else (idxF v xs).map (· + 1)
def idxLM (xs : List (List Int)) (v : List Int) : Option Int := (idxF v xs).map Int.ofNat
def sumM (xs : List Int) : Option Int := some xs.sum
section
variable {H0 : Hp} {ρ : List Slot} {K : PySem.W.Frag} {fa fb : Bool} {ta te : TE}
end
end Kj

set_option Elab.async false
set_option linter.all false
set_option maxRecDepth 100000
set_option maxHeartbeats 4000000
namespace Kj
open PySem L2
def f_law_orders (v_law_row : (List Int)) : Option (List (List Int)) := finF (S := Unit) (R := (List (List Int))) 
  (b1 (fun v_law_found => (bindF (S1 := (List (List Int))) (b1 (fun xs => forF (fun x2 s1 => (b1 (fun v_law_longer => (bindF (S1 := (List (List Int))) (b1 (fun xs => forF (fun x8 s7 => (b1 (fun v_law_longer => (some (Fl.nx v_law_longer)))
    (b2 catM (some s7) (b1 (lcM fun x10 => lcE (some true) (b2 catM (b2 catM (b3 cutM (some x8) noneM (someM (some x10))) (b1 shortM (b2 consM (some x2) (some ([] : List Int))))) (b3 cutM (some x8) (someM (some x10)) noneM))) (b1 rngM (b2 addI (b1 lenL (some x8)) (some (1 : Int)))))))) xs v_law_longer) (some s1)) fun s7 => (b1 (fun v_law_found => (some (Fl.nx v_law_found)))
    (some s7))))
    (b1 shortM (some ([] : List (List Int)))))) xs v_law_found) (some v_law_row)) fun s1 => (b1 (fun r => some (Fl.rt r)) (some s1))))
    (b1 shortM (b2 consM (b1 shortM (some ([] : List Int))) (some ([] : List (List Int))))))
end Kj

set_option Elab.async false
set_option linter.all false
set_option maxRecDepth 100000
set_option maxHeartbeats 4000000
/-! Kj53: a dict whose keys are tuples, with the keys' own addresses. -/
namespace Kj
open PySem PySem.W PySem.Calls PySem.Spec PyProof.Rows PyProof.V L2
abbrev DL := List (List Key × Addr × V)
def DRel (L : DL) (xs : List (List Key × Addr × Value)) : Prop := Paired (fun (p : List Key × Addr × V) (q : List Key × Addr × Value) => p.1 = q.1 ∧ p.2.1 = q.2.1 ∧ RelV p.2.2 q.2.2) L xs
def dxφ (P : Program) (w : World) (d : Addr) (L : DL) : Heap → Prop := fun h => L.length ≤ sizeLine ∧ (d == sysModules) = false ∧ ∃ xs, DRel L xs ∧ ∃ o es ep, h.get? d = some o ∧ o.ExactDict ∧ o.data = .dict es ep ∧ es.toList = xs.map (entryOfKey (tupleKind (mixKind P w))) ∧ (xs.map (·.1)).Nodup
def dxO (P : Program) (w : World) (d : Addr) (L : DL) : HO := .ext (dxφ P w d L)
def valX (L : DL) (k : List Key) : Option V := (L.find? fun x => decide (x.1 = k)).map (·.2.2)
def putX (L : DL) (k : List Key) (b : Addr) (v : V) : DL := if (valX L k).isSome = true then L.map (fun x => if x.1 = k then (x.1, x.2.1, v) else x) else L ++ [(k, b, v)]
theorem DRel.val {L : DL} {xs : List (List Key × Addr × Value)} (r : DRel L xs) (k : List Key) : RelO (valX L k) ((atKey xs k).map (·.2)) := by
  induction r with
  | nil => exact True.intro
  | @cons p q ps qs h t ih =>
    obtain ⟨h1, _, h2⟩ := h
    by_cases e : p.1 = k
    · have e' : q.1 = k := h1.symm.trans e
      have b : atKey (q :: qs) k = some q.2 := by simp [atKey, List.find?_cons, e']
      have a : valX (p :: ps) k = some p.2.2 := by simp [valX, List.find?_cons, e]
      rw [a, b]; exact h2
    · have e' : ¬ q.1 = k := fun z => e (h1.trans z)
      have b : atKey (q :: qs) k = atKey qs k := by simp [atKey, List.find?_cons, e']
      have a : valX (p :: ps) k = valX ps k := by simp [valX, List.find?_cons, e]
      rw [a, b]; exact ih
theorem DRel.put {L : DL} {xs : List (List Key × Addr × Value)} (r : DRel L xs) (k : List Key) (b : Addr) {v : V} {u : Value} (rv : RelV v u) : DRel (putX L k b v) (storedH xs k b u) := by
  have e : (valX L k).isSome = (atKey xs k).isSome := by
    rw [(r.val k).isSome_eq, Option.isSome_map]
  unfold putX storedH
  rw [e]
  by_cases q : (atKey xs k).isSome = true
  · rw [if_pos q, if_pos q]
    clear e q
    induction r with
    | nil => exact .nil
    | @cons p q ps qs h t ih =>
      rw [List.map_cons, List.map_cons]
      refine .cons ?_ ih
      obtain ⟨h1, h2, h3⟩ := h
      unfold putAt
      by_cases e : p.1 = k
      · rw [if_pos e, if_pos (h1.symm.trans e)]; exact ⟨h1, h2, rv⟩
      · rw [if_neg e, if_neg (fun z => e (h1.trans z))]; exact ⟨h1, h2, h3⟩
  · rw [if_neg q, if_neg q]
    exact Paired.snoc r ⟨rfl, rfl, rv⟩
/-- the keys' tuples are there -/
def KeysIn (H : Hp) (L : DL) : Prop := ∀ x ∈ L, H x.2.1 = some (.tup (x.1.map kV))
theorem KeysIn.of {P : Program} {w : World} {H : Hp} {h : Heap} (ok : HOk P w H h) {L : DL} {xs : List (List Key × Addr × Value)} (r : DRel L xs) (hK : KeysIn H L) : ∀ x ∈ xs, (tupleKind (mixKind P w)).is h x.1 x.2.1 := by
  induction r with
  | nil => intro x hx; cases hx
  | @cons p q ps qs h t ih =>
    intro x hx
    rcases List.mem_cons.mp hx with e | hx
    · subst e
      obtain ⟨h1, h2, _⟩ := h
      rw [← h1, ← h2]
      exact key_of ok (hK p List.mem_cons_self)
    · exact ih (fun y hy => hK y (List.mem_cons_of_mem _ hy)) x hx
def tDNewX (P : Program) (w : World) : TE := fun _ H Q => ∀ p, H p = none → Q (.ref p) (upd H p (dxO P w p []))
/-- d.get(k, z) -/
def tDGetX (P : Program) (w : World) (td ty tx : TE) : TE := fun σ H Q => td σ H fun x H1 => ∃ a L1, x = .ref a ∧ H1 a = some (dxO P w a L1) ∧ ty σ H1 fun y H2 => tx σ H2 fun z H3 =>
  ∃ L k b, H3 a = some (dxO P w a L) ∧ KeysIn H3 L ∧ y = .ref b ∧ H3 b = some (.tup (k.map kV)) ∧ Q ((valX L k).getD z) H3
def sDPutX (P : Program) (w : World) (td ty tv : TE) : TS := fun D σ H => tv σ H fun v H1 => td σ H1 fun x H2 => ty σ H2 fun y H3 =>
  ∃ a L k b, x = .ref a ∧ H3 a = some (dxO P w a L) ∧ KeysIn H3 L ∧ L.length < 100000 ∧ y = .ref b ∧ H3 b = some (.tup (k.map kV)) ∧ D.nx σ (upd H3 a (dxO P w a (putX L k b v)))
def rItemsX (P : Program) (w : World) : V → Hp → VK → Prop := fun x H Q => ∃ (d : Addr) (L : DL), x = .ref d ∧ H d = some (dxO P w d L) ∧
  ∀ (H' : Hp) (p : Addr) (ts : List Addr), (∀ b o, H b = some o → H' b = some o) → H p = none → (∀ t ∈ ts, H t = none) → p ∉ ts → H' p = some (.lst (ts.map V.ref)) → Paired (fun (t : Addr) (x : List Key × Addr × V) => H' t = some (.tup [.ref x.2.1, x.2.2])) ts L → Q (.ref p) H'
def tListItemsX (P : Program) (w : World) (te : TE) : TE := fun σ H Q => te σ H fun x H1 => rItemsX P w x H1 Q
section
variable {X : Cx} {e o f : Expr} {te td ty tx tv : TE} {p apos cpos pos pos' : Pos}
end
end Kj

set_option Elab.async false
set_option linter.all false
set_option maxRecDepth 100000
set_option maxHeartbeats 4000000
/-! Kj54: dicts from tuples of texts to lists of numbers, one's own. -/
namespace Kj
open PySem PySem.SeqAt PySem.W PyProof.Rows L2
abbrev Dt := List (P2 (Tp Str) (List Int))
def kts (t : Tp Str) : List Key := t.items.map Sum.inr
theorem kts_inj {a b : Tp Str} (h : kts a = kts b) : a = b := by
  obtain ⟨x⟩ := a; obtain ⟨y⟩ := b
  have : ∀ {x y : List Str}, x.map (Sum.inr : Str → Key) = y.map Sum.inr → x = y := by
    intro x
    induction x with
    | nil => intro y e; cases y with
      | nil => rfl
      | cons _ _ => cases e
    | cons a x ih => intro y e; cases y with
      | nil => cases e
      | cons b y =>
        rw [List.map_cons, List.map_cons] at e
        injection e with e1 e2
        rw [Sum.inr.inj e1, ih e2]
  exact congrArg Tp.mk (this h)
/-- a tuple of texts that stands on the heap -/
def aTq (t : Tp Str) : Abs := ⟨fun v H => ∃ b, v = .ref b ∧ H b = some (.tup ((kts t).map kV)), fun v H H' s ⟨b, e, h⟩ => ⟨b, e, s _ _ h⟩⟩
abbrev PD (K : PySem.W.Frag) (H : Hp) (L : DL) (d : Dt) : Prop := Paired (fun (x : List Key × Addr × V) (q : P2 (Tp Str) (List Int)) => x.1 = kts q.a ∧ H x.2.1 = some (.tup (x.1.map kV)) ∧ Dp K H x.2.2 (en q.b)) L d
theorem PD.mono {K : PySem.W.Frag} {H H' : Hp} {L : DL} {d : Dt} (h : PD K H L d) (s : Same H H') : PD K H' L d := Paired.mapP h fun _ _ z => ⟨z.1, s _ _ z.2.1, dp_mono s _ _ z.2.2⟩
def oD (P : Program) (w : World) (K : PySem.W.Frag) (d : Dt) : AbsO := ⟨fun p o H => ∃ L, o = dxO P w p L ∧ PD K H L d, fun _ _ _ _ s ⟨L, e, h⟩ => ⟨L, e, h.mono s⟩⟩
def getT (d : Dt) (k : Tp Str) : Option (List Int) := (d.find? fun q => decide (q.a = k)).map P2.b
def putT (d : Dt) (k : Tp Str) (v : List Int) : Dt := if (getT d k).isSome = true then d.map (fun q => if q.a = k then ⟨q.a, v⟩ else q) else d ++ [⟨k, v⟩]
def getTM (d : Dt) (k : Tp Str) (z : List Int) : Option (List Int) := some ((getT d k).getD z)
def putTM {β : Type} (d : Dt) (k : Tp Str) (v : List Int) (c : Dt → Option β) : Option β := if d.length < 100000 then c (putT d k v) else none
theorem PD.keys {K : PySem.W.Frag} {H : Hp} {L : DL} {d : Dt} (h : PD K H L d) : KeysIn H L := by
  induction h with
  | nil => intro x hx; cases hx
  | @cons a b as bs h t ih =>
    intro x hx
    rcases List.mem_cons.mp hx with e | hx
    · subst e; exact h.2.1
    · exact ih x hx
theorem PD.val {K : PySem.W.Frag} {H : Hp} {L : DL} {d : Dt} (h : PD K H L d) (k : Tp Str) : (valX L (kts k) = none ∧ getT d k = none) ∨ ∃ v x, valX L (kts k) = some v ∧ getT d k = some x ∧ Dp K H v (en x) := by
  induction h with
  | nil => exact .inl ⟨rfl, rfl⟩
  | @cons a b as bs h t ih =>
    by_cases e : b.a = k
    · refine .inr ⟨a.2.2, b.b, ?_, ?_, h.2.2⟩
      · have : a.1 = kts k := by rw [h.1, e]
        simp [valX, List.find?_cons, this]
      · simp [getT, List.find?_cons, e]
    · have e2 : ¬ a.1 = kts k := fun z => e (kts_inj (h.1.symm.trans z))
      have a1 : valX (a :: as) (kts k) = valX as (kts k) := by simp [valX, List.find?_cons, e2]
      have a2 : getT (b :: bs) k = getT bs k := by simp [getT, List.find?_cons, e]
      rw [a1, a2]
      exact ih
theorem PD.put {K : PySem.W.Frag} {H : Hp} {L : DL} {d : Dt} (h : PD K H L d) {k : Tp Str} {b : Addr} {v : V} {x : List Int} (hb : H b = some (.tup ((kts k).map kV))) (hv : Dp K H v (en x)) : PD K H (putX L (kts k) b v) (putT d k x) := by
  have e : (valX L (kts k)).isSome = (getT d k).isSome := by
    rcases h.val k with ⟨h1, h2⟩ | ⟨v, x, h1, h2, _⟩ <;> rw [h1, h2] <;> rfl
  unfold putX putT
  rw [e]
  by_cases q : (getT d k).isSome = true
  · rw [if_pos q, if_pos q]
    clear e q
    induction h with
    | nil => exact .nil
    | @cons a b as bs h t ih =>
      rw [List.map_cons, List.map_cons]
      refine .cons ?_ ih
      by_cases e : b.a = k
      · rw [if_pos (show a.1 = kts k by rw [h.1, e]), if_pos e]
        exact ⟨h.1, h.2.1, hv⟩
      · rw [if_neg (fun z => e (kts_inj (h.1.symm.trans z))), if_neg e]
        exact h
  · rw [if_neg q, if_neg q]
    exact Paired.snoc h ⟨rfl, hb, hv⟩
section
variable {Gw : WK} {H0 : Hp} {ρ ρ' : List Slot} {K : PySem.W.Frag} {P : Program} {w : World} {f fa fb : Bool} {ta tb te : TE} {S R : Type} {A : R → Abs} {B : S → List Slot} {u : TS}
end
end Kj

set_option Elab.async false
set_option linter.all false
set_option maxRecDepth 100000
set_option maxHeartbeats 4000000
namespace Kj
open PySem L2
def f_taken_at (v_deal : DealT) (v_unread : (List Int)) (v_plan : (List (P2 (Tp Str) (P4 Int Int Int Int)))) (v_verse : Int) : Option (Option Int) := finF (S := Unit) (R := (Option Int)) 
  (b1 (fun _ => (b1 (fun _ => (b1 (fun v_syllables => (b1 (fun v_heard => (b1 (fun r => some (Fl.rt r)) (b2 mnDO (b1 (lcM fun x2 => lcE (b3 f_is_taken (some v_deal) (some v_verse) (some x2.b)) (b1 lenTM (some x2.a))) (some v_heard)) (some (none : (Option Int))))))
    (b1 (lcM fun x1 => lcE (b2 f_begins (b1 listTM (some x1.a)) (some v_syllables)) (b2 mk2 (some x1.a) (some x1.b))) (some v_plan))))
    (b2 f_Book_verse (b1 f_Deal_book (some v_deal) ) (some v_verse)))) (b3 f_check_plan (some v_deal) (some v_unread) (some v_plan)))) (b2 f_check_verse (b1 f_Deal_book (some v_deal) ) (some v_verse)))
def f_starts (v_deal : DealT) (v_unread : (List Int)) : Option (List (P2 (Tp Str) (List Int))) := finF (S := Unit) (R := (List (P2 (Tp Str) (List Int)))) 
  (b1 (fun v_book => (b1 (fun v_found => (bindF (S1 := Dt) (b1 (fun xs => forF (fun x2 s1 => (bindF (S1 := Dt) (iteM ((b2 f_Deal_where (some v_deal) (some x2)).map Option.isSome)
    (b1 (fun v_beginning => (b2 (fun v z => putTM s1 z v fun v_found => (some (Fl.nx v_found))) (b2 catM (b2 (getTM s1) (some v_beginning) (b1 shortM (some ([] : List Int)))) (b1 shortM (b2 consM (some x2) (some ([] : List Int))))) (some v_beginning)))
    (b1 tupM (b3 cutM (b2 f_Book_verse (some v_book) (some x2)) noneM (someM (b3 f_moment (some v_deal) (some v_unread) (some x2))))))
    (some (Fl.nx s1))) fun s4 => (some (Fl.nx s4)))) xs v_found) (b2 f_rising (some v_book) (some v_unread))) fun s1 => (b1 (fun r => some (Fl.rt r)) (some s1)))) (some ([] : Dt))))
    (b1 f_Deal_book (some v_deal) ))
def f_earliest (v_deal : DealT) (v_unread : (List Int)) : Option (List (P2 (Tp Str) (P4 Int Int Int Int))) := finF (S := Unit) (R := (List (P2 (Tp Str) (P4 Int Int Int Int)))) 
  (b1 (fun r => some (Fl.rt r)) (b1 lim (b1 (catF fun x1 => iteM (some true) (b1 (catF fun x2 => iteM (some true) (b1 one1 (b2 mk2 (some x1.a) (some x2))) (some [])) (b2 f_Deal_cover (some v_deal) (some x1.b))) (some [])) (b2 f_starts (some v_deal) (some v_unread)))))
end Kj

set_option Elab.async false
set_option linter.all false
set_option maxRecDepth 100000
set_option maxHeartbeats 4000000
/-! Kj55: a list made by a comprehension with several fors, one's own; slices of tuples. -/
namespace Kj
open PySem L2
section
variable {Gw : WK} {H0 : Hp} {ρ ρ' : List Slot} {K : PySem.W.Frag} {f fa fb fc : Bool} {ta tb tc te : TE} {α β γ δ S S1 R : Type} {A : R → Abs} {B : S → List Slot} {t u w : TS}
def cutTM {α : Type} (x : Tp α) (lo hi : Option Int) : Option (Tp α) := some ⟨cutD x.items lo hi⟩
end
end Kj

set_option Elab.async false
set_option linter.all false
set_option maxRecDepth 100000
set_option maxHeartbeats 4000000
/-! Kj56: what is new as a whole. -/
namespace Kj
open PySem L2
def upG (Gs : Nat → Hp) (i : Nat) (G : Hp) : Nat → Hp := fun j => if j = i then G else Gs j
theorem upG_i {Gs : Nat → Hp} {i j : Nat} {G : Hp} (h : j = i) : upG Gs i G j = G := if_pos h
theorem upG_n {Gs : Nat → Hp} {i j : Nat} {G : Hp} (h : j ≠ i) : upG Gs i G j = Gs j := if_neg h
/-- a new thing, all of it outside of what is kept -/
theorem EnvOk.layR {H0 H Hr H1 G : Hp} {σ : St} {ρ : List Slot} (E : EnvOk H0 σ ρ H Hr) {i : Nat} {A : Abs} {v : V} (hi : i < ρ.length) (s : Same H H1) (hA : A.p v G) (hG : ∀ a o, G a = some o → H1 a = some o ∧ H a = none) :
    EnvOk H0 (σ.set i (some v)) (ρ.set i (.reg A)) H1 Hr := by
  have E1 := E.back s
  have hσ : i < σ.length := by rw [E.len]; exact hi
  obtain ⟨Gs, r1, r2, r3⟩ := E.reg
  have old : ∀ (j : Nat) (B : Slot), j ≠ i → (ρ.set i (.reg A))[j]? = some B → ρ[j]? = some B := fun j B n h => by rwa [List.getElem?_set_ne (Ne.symm n)] at h
  have ow : ∀ (j : Nat) (B : AbsO), (ρ.set i (.reg A))[j]? = some (.own B) → j ≠ i ∧ ρ[j]? = some (.own B) := fun j B h => by
    rcases set_at h with ⟨_, e⟩ | ⟨n, e⟩
    · cases e
    · exact ⟨n, e⟩
  have es : ∀ j, j ≠ i → (σ.set i (some v))[j]? = σ[j]? := fun j n => List.getElem?_set_ne (Ne.symm n)
  refine ⟨E1.base, E1.sub, by simp [E.len], fun j sl h => ?_, fun j k p B B' hjk hj hk ej ek => ?_, upG Gs i G, fun j A' h => ?_, fun j k A1 A2 n h h' a o q => ?_, fun j k A1 B p h h' hs => ?_⟩
  · rcases set_at h with ⟨_, e⟩ | ⟨n, e⟩
    · subst e; trivial
    · have q := E1.slot j sl e
      cases sl with
      | no => trivial
      | reg A => trivial
      | dat A => unfold SlotOk at q ⊢; rw [es j n]; exact q
      | new A => unfold SlotOk at q ⊢; rw [es j n]; exact q
      | own B => unfold SlotOk at q ⊢; rw [es j n]; exact q
  · obtain ⟨n1, h1⟩ := ow j B hj
    obtain ⟨n2, h2⟩ := ow k B' hk
    rw [es j n1] at ej
    rw [es k n2] at ek
    exact E.dis j k p B B' hjk h1 h2 ej ek
  · rcases set_at h with ⟨z, e⟩ | ⟨n, e⟩
    · cases e
      rw [upG_i z, z]
      exact ⟨⟨v, List.getElem?_set_self hσ, hA⟩, fun a o q => ⟨(hG a o q).1, E.sub.free (hG a o q).2, E.base.free (hG a o q).2⟩⟩
    · rw [upG_n n, es j n]
      obtain ⟨g1, g2⟩ := r1 j A' e
      exact ⟨g1, fun a o q => ⟨s _ _ (g2 a o q).1, (g2 a o q).2⟩⟩
  · rcases set_at h with ⟨z, e⟩ | ⟨n1, e⟩
    · rw [upG_i z] at q
      rcases set_at h' with ⟨z', e'⟩ | ⟨n2, e'⟩
      · exact absurd (z.trans z'.symm) n
      · rw [upG_n n2]
        cases y : Gs k a with
        | none => rfl
        | some u => have := ((r1 k A2 e').2 a u y).1; rw [(hG a o q).2] at this; cases this
    · rw [upG_n n1] at q
      rcases set_at h' with ⟨z', e'⟩ | ⟨n2, e'⟩
      · rw [upG_i z']
        cases y : G a with
        | none => rfl
        | some u => have := ((r1 j A1 e).2 a o q).1; rw [(hG a u y).2] at this; cases this
      · rw [upG_n n2]; exact r2 j k A1 A2 n e e' a o q
  · obtain ⟨n2, h2⟩ := ow k B h'
    rw [es k n2] at hs
    rcases set_at h with ⟨z, e⟩ | ⟨n1, e⟩
    · rw [upG_i z]
      obtain ⟨p', u, e1, _, _, e4, _⟩ := E.slot k _ h2
      rw [hs] at e1; cases e1
      cases y : G p with
      | none => rfl
      | some w => rw [(hG p w y).2] at e4; cases e4
    · rw [upG_n n1]; exact r3 j k A1 B p e h2 hs
/-- such a thing, opened: what may be done with its part of the heap -/
theorem EnvOk.regAt {H0 H Hr : Hp} {σ : St} {ρ : List Slot} (E : EnvOk H0 σ ρ H Hr) {i : Nat} {A : Abs} (hi : ρ[i]? = some (.reg A)) :
    ∃ v G, σ[i]? = some (some v) ∧ A.p v G ∧ (∀ a o, G a = some o → H a = some o ∧ Hr a = none ∧ H0 a = none) ∧
      (∀ (H' G' : Hp) (A' : Abs), (∀ a o, H a = some o → G a = none → H' a = some o) → (∀ a o, G' a = some o → H' a = some o ∧ (G a ≠ none ∨ H a = none)) → A'.p v G' → EnvOk H0 σ (ρ.set i (.reg A')) H' Hr) ∧
      (∀ (H' : Hp), (∀ a o, H a = some o → G a = none → H' a = some o) → EnvOk H0 σ (ρ.set i .no) H' Hr) := by
  have hl : i < ρ.length := (List.getElem?_eq_some_iff.mp hi).1
  obtain ⟨Gs, r1, r2, r3⟩ := E.reg
  obtain ⟨⟨v, v1, v2⟩, v3⟩ := r1 i A hi
  have core : ∀ (H' : Hp) (s' : Slot), (∀ B, s' ≠ .own B) → (∀ A, s' ≠ .dat A) → (∀ A, s' ≠ .new A) → (∀ a o, H a = some o → Gs i a = none → H' a = some o) → RegOk H0 H' Hr σ (ρ.set i s') → EnvOk H0 σ (ρ.set i s') H' Hr := fun H' s' no nd nn keep hreg => by
    have kr : Same Hr H' := fun a o q => keep a o (E.sub _ _ q) (by
      cases y : Gs i a with
      | none => rfl
      | some u => rw [(v3 a u y).2.1] at q; cases q)
    have kb : Same H0 H' := fun a o q => keep a o (E.base _ _ q) (by
      cases y : Gs i a with
      | none => rfl
      | some u => rw [(v3 a u y).2.2] at q; cases q)
    have ow : ∀ (j : Nat) (B : AbsO), (ρ.set i s')[j]? = some (.own B) → j ≠ i ∧ ρ[j]? = some (.own B) := fun j B h => by
      rcases set_at h with ⟨_, e⟩ | ⟨n, e⟩
      · exact absurd e.symm (no B)
      · exact ⟨n, e⟩
    refine ⟨kb, kr, by simp [E.len], fun j sl h => ?_, fun j k p B B' hjk hj hk ej ek => E.dis j k p B B' hjk (ow j B hj).2 (ow k B' hk).2 ej ek, hreg⟩
    rcases set_at h with ⟨_, e⟩ | ⟨n, e⟩
    · subst e
      cases sl with
      | no => trivial
      | reg A => trivial
      | own B => exact absurd rfl (no B)
      | dat A => exact absurd rfl (nd A)
      | new A => exact absurd rfl (nn A)
    · have q := E.slot j sl e
      cases sl with
      | no => trivial
      | reg A => trivial
      | dat A => exact q
      | new A => exact q
      | own B =>
        obtain ⟨p, u, e1, e2, e3, e4, e5⟩ := q
        exact ⟨p, u, e1, e2, e3, keep _ _ e4 (r3 i j A B p hi e e1), e5⟩
  refine ⟨v, Gs i, v1, v2, v3, fun H' G' A' keep g hA => ?_, fun H' keep => ?_⟩
  · refine core H' _ (fun B z => by cases z) (fun B z => by cases z) (fun B z => by cases z) keep ⟨upG Gs i G', fun j A1 h => ?_, fun j k A1 A2 n h h' a o q => ?_, fun j k A1 B p h h' hs => ?_⟩
    · rcases set_at h with ⟨z, e⟩ | ⟨n, e⟩
      · cases e
        rw [upG_i z, z]
        refine ⟨⟨v, v1, hA⟩, fun a o q => ⟨(g a o q).1, ?_⟩⟩
        rcases (g a o q).2 with y | y
        · cases y' : Gs i a with
          | none => exact absurd y' y
          | some u => exact (v3 a u y').2
        · exact ⟨E.sub.free y, E.base.free y⟩
      · rw [upG_n n]
        obtain ⟨g1, g2⟩ := r1 j A1 e
        exact ⟨g1, fun a o q => ⟨keep a o (g2 a o q).1 (r2 j i A1 A n e hi a o q), (g2 a o q).2⟩⟩
    · have off : ∀ (m : Nat) (A3 : Abs), m ≠ i → ρ[m]? = some (.reg A3) → ∀ a, G' a ≠ none → Gs m a = none := fun m A3 hm h3 a ha => by
        cases y : G' a with
        | none => exact absurd y ha
        | some u =>
          rcases (g a u y).2 with z | z
          · cases y' : Gs i a with
            | none => exact absurd y' z
            | some u' => exact r2 i m A A3 (Ne.symm hm) hi h3 a u' y'
          · cases y' : Gs m a with
            | none => rfl
            | some u' => rw [((r1 m A3 h3).2 a u' y').1] at z; cases z
      rcases set_at h with ⟨z, e⟩ | ⟨n1, e⟩
      · rw [upG_i z] at q
        rcases set_at h' with ⟨z', e'⟩ | ⟨n2, e'⟩
        · exact absurd (z.trans z'.symm) n
        · rw [upG_n n2]; exact off k A2 n2 e' a (by rw [q]; intro z; cases z)
      · rw [upG_n n1] at q
        rcases set_at h' with ⟨z', e'⟩ | ⟨n2, e'⟩
        · rw [upG_i z']
          cases y : G' a with
          | none => rfl
          | some u => rw [off j A1 n1 e a (by rw [y]; intro z; cases z)] at q; cases q
        · rw [upG_n n2]; exact r2 j k A1 A2 n e e' a o q
    · rcases set_at h' with ⟨_, e⟩ | ⟨n2, e2⟩
      · cases e
      · rcases set_at h with ⟨z, e⟩ | ⟨n1, e⟩
        · rw [upG_i z]
          obtain ⟨p', u, f1, _, _, f4, _⟩ := E.slot k _ e2
          rw [hs] at f1; cases f1
          cases y : G' p with
          | none => rfl
          | some w =>
            rcases (g p w y).2 with z | z
            · exact absurd (r3 i k A B p hi e2 hs) z
            · rw [f4] at z; cases z
        · rw [upG_n n1]; exact r3 j k A1 B p e e2 hs
  · refine core H' _ (fun B z => by cases z) (fun B z => by cases z) (fun B z => by cases z) keep ⟨Gs, fun j A1 h => ?_, fun j k A1 A2 n h h' a o q => ?_, fun j k A1 B p h h' hs => ?_⟩
    · rcases set_at h with ⟨z, e⟩ | ⟨n, e⟩
      · cases e
      · obtain ⟨g1, g2⟩ := r1 j A1 e
        exact ⟨g1, fun a o q => ⟨keep a o (g2 a o q).1 (r2 j i A1 A n e hi a o q), (g2 a o q).2⟩⟩
    · rcases set_at h with ⟨z, e⟩ | ⟨n1, e⟩
      · cases e
      · rcases set_at h' with ⟨z', e'⟩ | ⟨n2, e'⟩
        · cases e'
        · exact r2 j k A1 A2 n e e' a o q
    · rcases set_at h' with ⟨_, e⟩ | ⟨n2, e2⟩
      · cases e
      · rcases set_at h with ⟨z, e⟩ | ⟨n1, e⟩
        · cases e
        · exact r3 j k A1 B p e e2 hs
/-- such a thing is lent: it is read as what is new -/
theorem bo_reg {H0 : Hp} {ρ : List Slot} {i : Nat} {A : Abs} (hi : ρ[i]? = some (.reg A)) : Bo H0 ρ (ρ.set i (.new A)) := fun σ H Hr E => by
  have hl : i < ρ.length := (List.getElem?_eq_some_iff.mp hi).1
  obtain ⟨Gs, r1, r2, r3⟩ := E.reg
  obtain ⟨⟨v, v1, v2⟩, v3⟩ := r1 i A hi
  let Hr' : Hp := fun a => match Hr a with | some o => some o | none => Gs i a
  have up : Same Hr Hr' := fun a o q => by show (match Hr a with | some o => some o | none => Gs i a) = _; rw [q]
  have inv : ∀ a o, Hr' a = some o → Hr a = some o ∨ (Hr a = none ∧ Gs i a = some o) := fun a o q => by
    have q' : (match Hr a with | some o => some o | none => Gs i a) = some o := q
    cases y : Hr a with
    | some u => rw [y] at q'; exact .inl q'
    | none => rw [y] at q'; exact .inr ⟨rfl, q'⟩
  have off : ∀ a, Hr a = none → Gs i a = none → Hr' a = none := fun a h1 h2 => by show (match Hr a with | some o => some o | none => Gs i a) = _; rw [h1]; exact h2
  have gin : Same (Gs i) (mns Hr' H0) := fun a o q => mns_some.mpr ⟨(v3 a o q).2.2, by show (match Hr a with | some o => some o | none => Gs i a) = _; rw [(v3 a o q).2.1]; exact q⟩
  refine ⟨Hr', up, E.base, fun a o q => ?_, by simp [E.len], fun j sl h => ?_, fun j k p B B' hjk hj hk ej ek => ?_, Gs, fun j A1 h => ?_, fun j k A1 A2 n h h' a o q => ?_, fun j k A1 B p h h' hs => ?_⟩
  · rcases inv a o q with y | ⟨_, y⟩
    · exact E.sub _ _ y
    · exact (v3 a o y).1
  · rcases set_at h with ⟨z, e⟩ | ⟨n, e⟩
    · subst e z
      exact ⟨v, v1, A.mono _ _ _ gin v2⟩
    · have q := E.slot j sl e
      cases sl with
      | no => trivial
      | reg A => trivial
      | dat A => obtain ⟨w, g1, g2⟩ := q; exact ⟨w, g1, A.mono _ _ _ up g2⟩
      | new A => obtain ⟨w, g1, g2⟩ := q; exact ⟨w, g1, A.mono _ _ _ (mns_mono H0 up) g2⟩
      | own B =>
        obtain ⟨p, u, e1, e2, e3, e4, e5⟩ := q
        exact ⟨p, u, e1, e2, off _ e3 (r3 i j A B p hi e e1), e4, B.mono _ _ _ _ (mns_mono H0 up) e5⟩
  · have ow : ∀ (j : Nat) (B : AbsO), (ρ.set i (.new A))[j]? = some (.own B) → ρ[j]? = some (.own B) := fun j B h => by
      rcases set_at h with ⟨_, e⟩ | ⟨n, e⟩
      · cases e
      · exact e
    exact E.dis j k p B B' hjk (ow j B hj) (ow k B' hk) ej ek
  · rcases set_at h with ⟨_, e⟩ | ⟨n, e⟩
    · cases e
    · obtain ⟨g1, g2⟩ := r1 j A1 e
      exact ⟨g1, fun a o q => ⟨(g2 a o q).1, off a (g2 a o q).2.1 (r2 j i A1 A n e hi a o q), (g2 a o q).2.2⟩⟩
  · rcases set_at h with ⟨_, e⟩ | ⟨n1, e⟩
    · cases e
    · rcases set_at h' with ⟨_, e'⟩ | ⟨n2, e'⟩
      · cases e'
      · exact r2 j k A1 A2 n e e' a o q
  · rcases set_at h with ⟨_, e⟩ | ⟨n1, e⟩
    · cases e
    · rcases set_at h' with ⟨_, e'⟩ | ⟨n2, e'⟩
      · cases e'
      · exact r3 j k A1 B p e e' hs
/-- a reading that gives a new thing, all of it outside of what there was -/
def DMr (H0 : Hp) (ρ : List Slot) (t : TE) {α : Type} (A : α → Abs) (m : Option α) : Prop := ∀ x, m = some x → ∀ (σ : St) (H Hr : Hp) (Q : VK), EnvOk H0 σ ρ H Hr →
  (∀ v H1 G, Same H H1 → (A x).p v G → (∀ a o, G a = some o → H1 a = some o ∧ H a = none) → Q v H1) → t σ H Q
section
variable {Gw : WK} {H0 : Hp} {ρ ρ' : List Slot} {K : PySem.W.Frag} {f fa fb fc : Bool} {ta tb tc te : TE} {α β γ δ S S1 R : Type} {A : R → Abs} {B : S → List Slot} {t u w : TS} {Ax : α → Abs}
theorem db_setR {i : Nat} {m : Option α} {k : α → Option (Fl S R)} (h : DMr H0 ρ te Ax m) (hk : ∀ x : α, DB Gw H0 (ρ.set i (.reg (Ax x))) u A (k x) B) (hi : Nat.blt i ρ.length = true := by rfl) : DB Gw H0 ρ (tSeq (tAsg te (gName i)) u) A (b1 k m) B := fun fl e => by
  obtain ⟨x, h1, h2⟩ := b1_some e
  refine ds_sq (ρ1 := ρ.set i (.reg (Ax x))) (fun σ H Hr D E kn kr kx => ?_) (hk x fl h2)
  refine h x h1 σ H Hr _ E fun v H1 G s hA hG => ?_
  exact kn _ _ _ Hr rfl (E.layR (lt_of hi) s hA hG) (Same.refl _)
end
end Kj

set_option Elab.async false
set_option linter.all false
set_option maxRecDepth 100000
set_option maxHeartbeats 4000000
/-! Kj57: new lists of new lists. -/
namespace Kj
open PySem L2
def vOf : PyData → V
  | .bool b => .bl b
  | .int i => .int i
  | .str s => .str s
  | _ => .non
theorem vOf_dp {K : PySem.W.Frag} {H : Hp} {d : PyData} (hs : scD d = true) : Dp K H (vOf d) d := by
  cases d with
  | none => exact .non
  | bool b => exact .bl b
  | int i => exact .int i
  | str x => exact .str x
  | list _ => cases hs
  | tuple _ => cases hs
  | dict _ => cases hs
abbrev rowV {α : Type} [Enc α] (x : List α) : List V := x.map fun a => vOf (en a)
theorem rowV_dp {α : Type} [Enc α] [Flt α] {K : PySem.W.Frag} {H : Hp} : ∀ x : List α, DpAll K H (rowV x) (x.map en)
  | [] => .nil
  | a :: x => .cons (vOf_dp (Flt.fl a)) (rowV_dp x)
def RowsG {α : Type} [Enc α] (H : Hp) (rs : List Addr) (xs : List (List α)) : Prop := Paired (fun (r : Addr) (x : List α) => H r = some (.lst (rowV x))) rs xs
theorem RowsG.keep {α : Type} [Enc α] {H H' : Hp} {rs : List Addr} {xs : List (List α)} (h : RowsG H rs xs) (s : ∀ r ∈ rs, ∀ o, H r = some o → H' r = some o) : RowsG H' rs xs := by
  unfold RowsG at *
  induction h with
  | nil => exact .nil
  | cons a t ih => exact .cons (s _ (by simp) _ a) (ih fun r hr => s r (by simp [hr]))
theorem RowsG.dp {α : Type} [Enc α] [Flt α] {K : PySem.W.Frag} {H : Hp} {rs : List Addr} {xs : List (List α)} (h : RowsG H rs xs) : DpAll K H (rs.map .ref) (xs.map en) := by
  unfold RowsG at h
  induction h with
  | nil => exact .nil
  | cons a t ih => exact .cons (.lst (SqL.of a) (rowV_dp _)) ih
def uniH (Hr G : Hp) : Hp := fun b => match Hr b with | some o => some o | none => G b
def resH (l : List Addr) (G : Hp) : Hp := fun a => if a ∈ l then G a else none
/-- a list of lists, each of them another one -/
def aTr {α : Type} [Enc α] (xs : List (List α)) : Abs := ⟨fun v H => ∃ p rs, v = .ref p ∧ H p = some (.lst (rs.map .ref)) ∧ RowsG H rs xs ∧ (p :: rs).Nodup, fun v H H' s z => by
  obtain ⟨p, rs, e, h, t, n⟩ := z
  exact ⟨p, rs, e, s _ _ h, t.keep fun r _ o z => s _ _ z, n⟩⟩
section
variable {Gw : WK} {H0 : Hp} {ρ ρ' : List Slot} {K : PySem.W.Frag} {f fa fb fc : Bool} {ta tb tc te : TE} {α β γ δ S S1 R : Type} {A : R → Abs} {B : S → List Slot} {t u w : TS} {Ax : α → Abs} {Bx : β → Abs} {Cx : γ → Abs}
/-! calls -/
theorem dr_call {Sp : Spec} {As : List Abs} {Rr : Abs} {t : TA} {Ex : XK} (bo : Bo H0 ρ ρ') (ha : DA H0 ρ' t false As) (hs : Sp As Rr) (σ : St) (H Hr : Hp) (Q : VK) (E : EnvOk H0 σ ρ H Hr) (k : ∀ v H1 G, Same H H1 → Rr.p v G → (∀ a o, G a = some o → H1 a = some o ∧ H a = none) → Q v H1) : tCall (spF Sp) [] Ex t σ H Q := by
  obtain ⟨Hr', s, E'⟩ := bo σ H Hr E
  refine ha σ H Hr' _ E' fun vs H1 Hr1 x1 a1 => ?_
  show spF Sp (vs ++ []) H1 Q Ex
  rw [List.append_nil]
  exact ⟨As, Rr, hs, a1.mono x1.s, fun v H2 s2 r2 => k v H2 _ (x1.h.trans s2) r2 fun a o q => ⟨(mns_some.mp q).2, x1.h.free (mns_some.mp q).1⟩⟩
theorem dmr_call2 {F : α → β → Option γ} {ma : Option α} {mb : Option β} (bo : Bo H0 ρ ρ') (h1 : DM H0 ρ' ta fa Ax ma) (h2 : DM H0 ρ' tb fb Bx mb) : DMr H0 ρ (tCall (spF (sp2 Ax Bx Cx F)) [] Ex (tCons ta (tCons tb tNil))) Cx (b2 F ma mb) := fun x e σ H Hr Q E k => by
  obtain ⟨a, b, e1, e2, h⟩ := b2_some e
  exact dr_call bo (da_cons (h1 _ e1) (da_cons (h2 _ e2) da_nil)) ⟨a, b, x, rfl, h, rfl⟩ σ H Hr Q E k
/-! a comprehension that makes lists -/
end
end Kj

set_option Elab.async false
set_option linter.all false
set_option maxRecDepth 100000
set_option maxHeartbeats 4000000
/-! Kj58: loops over a new list of new lists, each of them changed in its turn. -/
namespace Kj
open PySem L2
/-- the very value -/
def aIs (x : V) : Abs := ⟨fun v _ => v = x, fun _ _ _ _ h => h⟩
def noDatB (ρ : List Slot) (i : Nat) : Prop := ∀ (m : Nat) (A : Abs), m ≠ i → ρ[m]? ≠ some (.dat A)
end Kj

set_option Elab.async false
set_option linter.all false
set_option maxRecDepth 100000
set_option maxHeartbeats 4000000
/-! Kj59: such a loop; calls that change what they are given. -/
namespace Kj
open PySem L2
/-- a list of one's own at a known place -/
def oP {α : Type} [Enc α] (r : Addr) (x : List α) : AbsO := ⟨fun a o _ => a = r ∧ o = .lst (rowV x), fun _ _ _ _ _ h => h⟩
def aTrP {α : Type} [Enc α] (p : Addr) (rs : List Addr) (xs : List (List α)) : Abs := ⟨fun v H => v = .ref p ∧ H p = some (.lst (rs.map .ref)) ∧ RowsG H rs xs ∧ (p :: rs).Nodup, fun v H H' s z => by
  obtain ⟨e, h, t, n⟩ := z
  exact ⟨e, s _ _ h, t.keep fun r _ o z => s _ _ z, n⟩⟩
theorem RowsG.at {α : Type} [Enc α] {H : Hp} : ∀ {rs : List Addr} {xs : List (List α)}, RowsG H rs xs → ∀ {k : Nat} {x : List α}, xs[k]? = some x → ∃ r, rs[k]? = some r ∧ H r = some (.lst (rowV x))
  | _, _, .nil, k, x, e => by simp at e
  | _, _, .cons a t, 0, x, e => by simp at e; subst e; exact ⟨_, rfl, a⟩
  | _, _, .cons a t, k + 1, x, e => RowsG.at t (by simpa using e)
theorem RowsG.put {α : Type} [Enc α] {H H' : Hp} {y : List α} {r : Addr} : ∀ {rs : List Addr} {xs : List (List α)} {k : Nat}, RowsG H rs xs → rs.Nodup → rs[k]? = some r → (∀ a ∈ rs, a ≠ r → ∀ o, H a = some o → H' a = some o) → H' r = some (.lst (rowV y)) → RowsG H' rs (xs.set k y)
  | _, _, k, .nil, _, e, _, _ => by simp at e
  | _, _, 0, .cons a t, nd, e, s, h => by
    simp at e
    subst e
    refine .cons h (RowsG.keep t fun b hb o q => s b (by simp [hb]) (fun z => ?_) o q)
    subst z; exact (List.nodup_cons.mp nd).1 hb
  | _, _, k + 1, .cons a t, nd, e, s, h => by
    have e' := (by simpa using e : _ = some r)
    refine .cons (s _ (by simp) (fun z => ?_) _ a) (RowsG.put t (List.nodup_cons.mp nd).2 e' (fun b hb => s b (by simp [hb])) h)
    subst z; exact (List.nodup_cons.mp nd).1 (List.mem_of_getElem? e')
section
variable {Gw : WK} {H0 : Hp} {ρ ρ' : List Slot} {K : PySem.W.Frag} {f fa fb fc : Bool} {ta tb tc te : TE} {α β γ δ S S1 R : Type} {A : R → Abs} {B : S → List Slot} {t u w : TS} {Ax : α → Abs} {Bx : β → Abs} {C : WZ}
end
end Kj

set_option Elab.async false
set_option linter.all false
set_option maxRecDepth 100000
set_option maxHeartbeats 4000000
/-! Kj60: programs that change lists in lists. -/
namespace Kj
open PySem L2
def noDatF (ρ : List Slot) : Bool := ρ.all fun s => match s with | .dat _ => false | _ => true
def nxO {S R : Type} (m : Option (Fl S R)) : Option S := m.bind fun fl => match fl with | .nx s => some s | _ => none
def mapL {α β : Type} (f : α → Option β) : List α → Option (List β)
  | [] => some []
  | x :: xs => (f x).bind fun y => (mapL f xs).bind fun ys => some (y :: ys)
def popRM {α β : Type} (xs : List α) (k : List α → Option β) : Option β := if xs = [] then none else k xs.dropLast
section
variable {Gw : WK} {H0 : Hp} {ρ ρ' : List Slot} {K : PySem.W.Frag} {f fa fb fc : Bool} {ta tb tc te : TE} {α β γ δ S S1 S2 R R2 : Type} {A : R → Abs} {A2 : R2 → Abs} {B : S → List Slot} {t u w : TS} {Ax : α → Abs} {Bx : β → Abs} {C : WZ}
/-! one list of them -/
/-! the list of them -/
theorem RowsG.last {α : Type} [Enc α] {H : Hp} {rs : List Addr} {xs : List (List α)} (h : RowsG H rs xs) : RowsG H rs.dropLast xs.dropLast := by
  unfold RowsG at *
  induction h with
  | nil => exact .nil
  | @cons a b as bs h t ih =>
    cases t with
    | nil => exact .nil
    | cons h' t' => exact .cons h ih
end
/-! defs that change what they are given -/
def spW (K : PySem.W.Frag) {α β : Type} [Enc α] [Enc β] (F : List (List α) → β → Option Unit) : Sp := fun vs H Q _ => ∃ v0 v1 a b G, vs = [v0, v1] ∧ F a b = some () ∧ (aTr a).p v0 G ∧ (∀ J, Dp K J v1 (en b)) ∧ (∀ x o, G x = some o → H x = some o) ∧ ∀ H', (∀ x o, H x = some o → G x = none → H' x = some o) → Q .non H'
section
variable {P : Program} {w : World} {K : PySem.W.Frag} {mg : Str → Option Value} {base : Heap}
end
section
variable {Gw : WK} {H0 : Hp} {ρ ρ' : List Slot} {K : PySem.W.Frag} {f fa fb fc : Bool} {ta tb tc te : TE} {α β γ δ S S1 R : Type} {A : R → Abs} {B : S → List Slot} {t u w : TS}
end
end Kj

set_option Elab.async false
set_option linter.all false
set_option maxRecDepth 100000
set_option maxHeartbeats 4000000
/-! Kj61: objects that keep the first thing that they are given, and nothing else of it; a new list put behind new lists. -/
namespace Kj
open PySem L2
def spIM (S : List Abs → List (Str × Abs) → Prop) (C : Addr) : Sp := fun vs H Q _ => ∃ x dx A0 As fas v0 rest Hr, vs = .ref x :: v0 :: rest ∧ H x = some (.ins C dx []) ∧ S (A0 :: As) fas ∧ Same Hr (rm H x) ∧ A0.p v0 Hr ∧ AllP As rest (rm H x) ∧
  ∀ H' Hr' fs, Ext (rm H x) Hr (rm H' x) Hr' → H' x = some (.ins C dx fs) → FAll fas fs Hr' → Q .non H'
section
variable {Gw : WK} {C' : WZ} {H0 : Hp} {ρ ρ' : List Slot} {K : PySem.W.Frag} {f fa fb fc : Bool} {ta tb tc te : TE} {α β γ δ ε S S1 R : Type} {A : R → Abs} {B : S → List Slot} {t u w : TS} {C : Addr} {fas : List (Str × Abs)}
end
section
variable {P : Program} {w : World} {K : PySem.W.Frag} {mg : Str → Option Value} {base : Heap}
end
end Kj

set_option Elab.async false
set_option linter.all false
set_option maxRecDepth 100000
set_option maxHeartbeats 4000000
/-! Kj62: a pair that holds None or a list of its own. -/
namespace Kj
open PySem L2
def rsS {α : Type} (m : Option (Rs α)) : Option (Rs (Option α)) := m.map fun r => match r with | .ok x => .ok (some x) | .ex e => .ex e
section
variable {W : WX} {Gw : WK} {H0 : Hp} {ρ ρ' : List Slot} {K K' : PySem.W.Frag} {f fa fb fc : Bool} {ta tb tc te : TE} {α β γ δ S S1 R : Type} {A : R → Abs} {B : S → List Slot} {t u w : TS}
theorem dmx_someO [Enc α] {m : Option (Rs (List α))} (h : DMx W K' H0 ρ te f (aEo K) m) : DMx W K' H0 ρ te f (aEoO K) (rsS m) := by
  refine ⟨fun x e => ?_, fun x e => ?_⟩
  · obtain ⟨r, e1, e2⟩ := Option.map_eq_some_iff.mp e
    cases r with
    | ok y => cases e2; exact h.1 y e1
    | ex z => cases e2
  · obtain ⟨r, e1, e2⟩ := Option.map_eq_some_iff.mp e
    cases r with
    | ok y => cases e2
    | ex z => cases e2; exact h.2 _ e1
theorem aEoO_aE' [Enc α] [EncN α] {o : Option (List α)} {v : V} {H : Hp} (h : (aEoO K o).p v H) : (aE K o).p v H := by
  cases o with
  | none => exact h
  | some xs => exact aEo_aE h
def aTO [Enc α] (K : PySem.W.Frag) (x : P2 Str (Option (List α))) : Abs := ⟨fun v H => ∃ q w, v = .ref q ∧ H q = some (.tup [.str x.a, w]) ∧ (aEoO K x.b).p w H, fun v H H' s z => by
  obtain ⟨q, w, e, h, a⟩ := z
  exact ⟨q, w, e, s _ _ h, (aEoO K x.b).mono _ _ _ s a⟩⟩
theorem dm_ofTO [Enc α] [EncN α] {m : Option (P2 Str (Option (List α)))} (h : DM H0 ρ te f (aTO K) m) : DM H0 ρ te f (aE K) m := fun x e σ H Hr Q E k => h x e σ H Hr Q E fun v H1 Hr1 x1 a => k v H1 Hr1 x1 (by
  obtain ⟨q, w, rfl, hq, aw⟩ := a
  exact .tup (SqT.of hq) (.cons (.str _) (.cons (aEoO_aE' aw) .nil)))
theorem dm_tupTO [Enc α] {m1 : Option Str} {m2 : Option (Option (List α))} (h1 : DM H0 ρ ta fa (aE K) m1) (h2 : DM H0 ρ tb true (aEoO K) m2) : DM H0 ρ (tTup (tCons ta (tCons tb tNil))) true (aTO K) (b2 mk2 m1 m2) := fun x e => by
  obtain ⟨a, b, e1, e2, h⟩ := b2_some e
  cases h
  intro σ H Hr Q E k
  refine h1 a e1 σ H Hr _ E fun v1 H1 Hr1 x1 a1 => ?_
  cases a1
  refine h2 b e2 σ H1 Hr1 _ (E.ext x1) fun w H2 Hr2 x2 a2 => ?_
  refine ⟨by rw [sizeLine_eq]; show 2 ≤ 16777216; decide, fun p hn => ?_⟩
  have E2 := (E.ext x1).ext x2
  have xl : Ext H2 Hr2 (upd H2 p (.tup [.str a, w])) (upd Hr2 p (.tup [.str a, w])) := Ext.lay x2.s hn
  exact k _ _ _ ((x1.trans x2).trans xl) ⟨p, w, rfl, hp_lay true E2.base hn, (aEoO K b).mono _ _ _ (hp_mono true H0 xl.r) a2⟩
def spTO {α β γ : Type} (x : P2 α (Option (List β))) (k : Option γ) : Option γ := match x.b with | some xs => if xs.length < 100000 then k else none | none => none
theorem db_dropTO [Enc α] [Enc β] {i : Nat} {x : P2 Str (Option (List α))} {mx : Option β} {k : Option (Fl S R)} (hi : ρ[i]? = some (.reg (aTO K x))) (hx : DM H0 ρ tb fb (aE K) mx) (hk : DB Gw H0 (ρ.set i .no) u A k B) :
    DB Gw H0 ρ (tSeq (tDrop (tBM K "list" rAppend (tOp (rIxT K) (tVar i) (tC (.int 1))) (tCons tb tNil))) u) A (b1 (fun _ => spTO x k) mx) B := fun fl e => by
  obtain ⟨y, h1, h2⟩ := b1_some e
  obtain ⟨xa, xb⟩ := x
  cases xb with
  | none => cases h2
  | some xs =>
    unfold spTO at h2
    dsimp only at h2
    split at h2
    · rename_i hl
      refine ds_sq (ρ1 := ρ.set i .no) (fun σ H Hr D E kn kr kx => ?_) (hk fl h2)
      obtain ⟨v, G, e1, ⟨q, w, rfl, hq, ⟨p, o, rfl, hp, ⟨vs, rfl, dv⟩⟩⟩, hG, _, _⟩ := E.regAt hi
      have lv := dpa_len dv
      rw [List.length_map] at lv
      refine ⟨_, e1, q, _, 1, .ref p, rfl, rfl, SqT.of (hG _ _ hq).1, rfl, tyL (hG _ _ hp).1, hx y h1 σ H Hr _ E fun v1 H1 Hr1 x1 a1 => ?_⟩
      obtain ⟨v', G', e2, ⟨q', w', ev', hq', aw'⟩, hG', _, dr⟩ := (E.ext x1).regAt hi
      rw [e1] at e2
      cases e2
      cases ev'
      obtain ⟨p', o', ew', hp', vs', eo', dv'⟩ := aw'
      subst ew' eo'
      have s1 := (hG' _ _ hq').1
      rw [x1.h _ _ (hG _ _ hq).1] at s1
      cases s1
      refine ⟨p, vs, v1, rfl, rfl, x1.h _ _ (hG _ _ hp).1, by rw [lv, sizeLine_eq]; omega, ?_⟩
      exact kn _ _ _ Hr1 rfl (dr _ fun a o z g => by
        have : a ≠ p := fun w => by rw [w, hp'] at g; cases g
        rw [upd_ne this]; exact z) x1.r
    · cases h2
end
end Kj

set_option Elab.async false
set_option linter.all false
set_option maxRecDepth 100000
set_option maxHeartbeats 4000000
namespace Kj
open PySem L2
abbrev lxn : List Str := ["NoCard", "NoField"]
abbrev lxc : List Str := ["NoCard", "NoField", "SnatchError"]
def f_law_tried (v_law_deal : DealT) (v_law_sweep : (P4 Int Int Int Int)) : Option (P2 Str (Option (List Int))) := finF (S := Unit) (R := (P2 Str (Option (List Int)))) 
  (b1 (fun v_law_why => (b1 (fun v_law_told => (bindF (S1 := Str × (Option (List Int))) (tryM lxn [("NoField", (b1 (fun v_law_why => (some (Fl.nx (v_law_why, v_law_told))))
    (some ("NoField" : Str)))), ("NoCard", (b1 (fun v_law_why => (some (Fl.nx (v_law_why, v_law_told))))
    (some ("NoCard" : Str)))), ("SnatchError", (b1 (fun v_law_why => (some (Fl.nx (v_law_why, v_law_told))))
    (some ("other" : Str))))] (fun y => some (Fl.nx (v_law_why, y))) (rsS (b2 f_Deal_swept_x (some v_law_deal) (some v_law_sweep)))) fun s1 => (b1 (fun r => some (Fl.rt r)) (b2 mk2 (some s1.1) (some s1.2)))))
    (some (none : (Option (List Int))))))
    (some ("" : Str)))
def f_law (v_law_script : (List Int)) : Option Bool := finF (S := Unit) (R := Bool) 
  (b1 (fun v_law_numbers_here => (b1 (fun v_law_verses => (b1 (fun v_law_rows => (b1 (fun v_law_deal => (b1 (fun v_law_some => (bindF (S1 := Unit) (b1 (fun xs => forF (fun x3 s2 => (b1 (fun v_law_why => (b1 (fun v_law_found => (bindF (S1 := Unit) (iteM (b2 neM (some v_law_why) (some ("" : Str)))
    (bindF (S1 := Unit) (iteM (b2 neM (some v_law_found) (b2 mk2 (some v_law_why) (some (none : (Option (List Int))))))
    (b1 (fun r => some (Fl.rt r)) (some false))
    (some (Fl.nx ()))) fun s15 => (some (Fl.nx ())))
    (b1 (fun v_law_due => (bindF (S1 := Unit) (iteM (orM (b2 neM ((some v_law_found).map P2.a) (some ("" : Str))) (notM (b2 sameM ((some v_law_found).map P2.b) ((some v_law_due).map some))))
    (b1 (fun r => some (Fl.rt r)) (some false))
    (some (Fl.nx ()))) fun s16 => (b1 (fun _ => spTO v_law_found ((bindF (S1 := Unit) (iteM (notM (b2 sameM (b2 f_Deal_swept (some v_law_deal) (some x3)) (some v_law_due)))
    (b1 (fun r => some (Fl.rt r)) (some false))
    (some (Fl.nx ()))) fun s17 => (some (Fl.nx ()))))) (some (0 : Int)))))
    (b2 f_law_touched (some v_law_rows) (some x3)))) fun s14 => (some (Fl.nx ()))))
    (b2 f_law_tried (some v_law_deal) (some x3))))
    (b2 f_law_sweep_bad (some v_law_rows) (some x3)))) xs ()) (some v_law_some)) fun s2 => (b1 (fun r => some (Fl.rt r)) (some true))))
    (b2 catM (b3 cutM (b1 f_law_sweeps (some v_law_rows)) (someM (b2 modI (b2 atI (some v_law_numbers_here) (some (1 : Int))) (some (3 : Int)))) (someM (some (60 : Int)))) (b1 (lcM fun x1 => lcE (some true) (b2 f_law_wild (some v_law_rows) (b3 cutM (some v_law_numbers_here) (someM (b2 addI (some (2 : Int)) (b2 mulI (some (4 : Int)) (some x1)))) noneM))) (b1 rngM (some (9 : Int)))))))
    (b2 f_law_made (b1 f_Book___init__ (b1 f_law_copy (some v_law_verses))) (some v_law_rows))))
    (b2 f_law_fields (b1 lenL (some v_law_verses)) (b3 cutM (some v_law_numbers_here) (someM (some (300 : Int))) noneM))))
    (b2 f_law_book (b3 cutM (some v_law_numbers_here) (someM (some (40 : Int))) noneM) (b2 atI (b1 shortM (b2 consM (some (6 : Int)) (b2 consM (some (14 : Int)) (b2 consM (some (40 : Int)) (some ([] : List Int)))))) (b2 modI (b2 atI (some v_law_numbers_here) (some (0 : Int))) (some (3 : Int)))))))
    (b2 f_law_numbers (some v_law_script) (some (360 : Int))))
end Kj

set_option Elab.async false
set_option linter.all false
set_option maxRecDepth 100000
set_option maxHeartbeats 4000000
/-! KjMj: the mathematics of deals. -/
namespace Kj
open PySem L2
theorem mk3_eq {α β γ : Type} {a : α} {b : β} {c : γ} : mk3 a b c = some ⟨a, b, c⟩ := Eq.trans rfl rfl
theorem mk4_eq {α β γ δ : Type} {a : α} {b : β} {c : γ} {d : δ} : mk4 a b c d = some ⟨a, b, c, d⟩ := Eq.trans rfl rfl
theorem anyM_eq {bs : List Bool} : anyM bs = some (bs.any id) := Eq.trans rfl rfl
theorem one1_eq {β : Type} {y : β} : one1 y = some [y] := Eq.trans rfl rfl
theorem lim_ok {β : Type} {xs : List β} (h : xs.length ≤ 100000) : lim xs = some xs := by unfold lim; rw [if_pos h]
theorem catF_ok {α β : Type} {g : α → Option (List β)} {h : α → List β} : ∀ {xs : List α}, (∀ x ∈ xs, g x = some (h x)) → catF g xs = some (xs.flatMap h)
  | [], _ => rfl
  | x :: xs, hh => by
    have e1 := hh x (by simp)
    have e2 := catF_ok (xs := xs) fun y hy => hh y (by simp [hy])
    unfold catF
    rw [e1, e2]
    rfl
/-- two fields, as they may lie -/
def Fd (rs : List (List Int)) : Prop := 1 ≤ rs.length ∧ rs.length ≤ 3 ∧ ∀ r ∈ rs, r.length ≤ 12
def DOk (m : Nat) (x0 x1 : List (List Int)) : Prop := Fd x0 ∧ Fd x1 ∧ (x0.flatten ++ x1.flatten).Nodup ∧ ∀ c ∈ x0.flatten ++ x1.flatten, 0 ≤ c ∧ c < (m : Int)
theorem insAt_perm (i : Nat) (v : Int) (r : List Int) : (insAt i v r).Perm (v :: r) := by
  unfold insAt
  rw [List.append_assoc]
  have h : (r.take i ++ ([v] ++ r.drop i)).Perm ([v] ++ r.drop i ++ r.take i) := List.perm_append_comm
  refine h.trans ?_
  rw [List.append_assoc]
  show (v :: (r.drop i ++ r.take i)).Perm (v :: r)
  refine List.Perm.cons _ ?_
  have h2 : (r.drop i ++ r.take i).Perm (r.take i ++ r.drop i) := List.perm_append_comm
  rwa [List.take_append_drop] at h2
theorem set_perm {r : List Int} {v : Int} {i : Nat} : ∀ {xs : List (List Int)} {j : Nat}, xs[j]? = some r → (xs.set j (insAt i v r)).flatten.Perm (v :: xs.flatten)
  | [], j, h => by simp at h
  | x :: xs, 0, h => by
    simp at h; subst h
    rw [List.set_cons_zero, List.flatten_cons, List.flatten_cons]
    exact (insAt_perm i v x).append_right _
  | x :: xs, j + 1, h => by
    rw [List.set_cons_succ, List.flatten_cons, List.flatten_cons]
    have ih := set_perm (i := i) (v := v) (xs := xs) (j := j) (by simpa using h)
    refine (ih.append_left x).trans ?_
    exact List.perm_middle
theorem putRow_flat (w v : Int) {xs : List (List Int)} (h : 0 < xs.length) : putRow w v xs = xs ∨ (putRow w v xs).flatten.Perm (v :: xs.flatten) := by
  unfold putRow
  split
  · right
    have ix : 0 ≤ w / 35 % (xs.length : Int) ∧ w / 35 % (xs.length : Int) < xs.length := ⟨Int.emod_nonneg _ (by omega), Int.emod_lt_of_pos _ (by omega)⟩
    refine set_perm ?_
    rw [List.getD_eq_getElem?_getD, List.getElem?_eq_getElem (by omega)]; rfl
  · left; rfl
theorem putRow_fd (w v : Int) {xs : List (List Int)} (h : Fd xs) : Fd (putRow w v xs) := by
  obtain ⟨h1, h2, h3⟩ := h
  refine ⟨by rw [putRow_len]; exact h1, by rw [putRow_len]; exact h2, fun r hr => ?_⟩
  unfold putRow at hr
  split at hr
  · rename_i hl
    rcases List.mem_or_eq_of_mem_set hr with e | e
    · exact h3 r e
    · subst e; rw [(insAt_perm _ _ _).length_eq]; simp only [List.length_cons]; omega
  · exact h3 r hr
theorem flat_rep (n : Nat) : (List.replicate n ([] : List Int)).flatten = [] := by induction n with
  | zero => rfl
  | succ n ih => rw [List.replicate_succ, List.flatten_cons, ih]; rfl
theorem DOk.put {m : Nat} {x0 x1 y0 y1 : List (List Int)} (h : DOk m x0 x1) (f0 : Fd y0) (f1 : Fd y1) (hp : (y0.flatten ++ y1.flatten).Perm ((m : Int) :: (x0.flatten ++ x1.flatten))) : DOk (m + 1) y0 y1 := by
  obtain ⟨_, _, h3, h4⟩ := h
  refine ⟨f0, f1, hp.nodup_iff.mpr (List.nodup_cons.mpr ⟨fun z => ?_, h3⟩), fun c hc => ?_⟩
  · have := h4 _ z; omega
  · rcases List.mem_cons.mp (hp.mem_iff.mp hc) with e | e
    · subst e; omega
    · have := h4 _ e; omega
theorem DOk.mono {m n : Nat} {x0 x1 : List (List Int)} (h : DOk m x0 x1) (hm : m ≤ n) : DOk n x0 x1 := ⟨h.1, h.2.1, h.2.2.1, fun c hc => by have := h.2.2.2 c hc; omega⟩
theorem fld_ok (d : List Int) : ∀ m : Nat, DOk m (fldAll d m).1 (fldAll d m).2
  | 0 => by
    unfold fldAll
    have e0 := emod3 (d.getD 0 0)
    have e1 := emod3 (d.getD 1 0)
    refine ⟨⟨by rw [List.length_replicate]; omega, by rw [List.length_replicate]; omega, fun r hr => by rw [(List.mem_replicate.mp hr).2]; simp⟩, ⟨by rw [List.length_replicate]; omega, by rw [List.length_replicate]; omega, fun r hr => by rw [(List.mem_replicate.mp hr).2]; simp⟩, ?_, ?_⟩
    · rw [flat_rep, flat_rep]; simp
    · rw [flat_rep, flat_rep]; simp
  | m + 1 => by
    have ih := fld_ok d m
    unfold fldAll fldStep
    generalize fldAll d m = t at ih
    obtain ⟨x0, x1⟩ := t
    have ih' := ih
    obtain ⟨f0, f1, _, _⟩ := ih'
    split
    · rcases putRow_flat (d.getD (3 + m) 0) m (xs := x0) f0.1 with e | e
      · dsimp only; rw [e]; exact ih.mono (by omega)
      · exact ih.put (putRow_fd _ _ f0) f1 (e.append_right _)
    · split
      · rcases putRow_flat (d.getD (3 + m) 0) m (xs := x1) f1.1 with e | e
        · dsimp only; rw [e]; exact ih.mono (by omega)
        · exact ih.put f0 (putRow_fd _ _ f1) ((e.append_left _).trans List.perm_middle)
      · exact ih.mono (by omega)
theorem fields_ok {m : Nat} {d : List Int} (hm : m ≤ 1000) (hd : m + 3 ≤ d.length) : ∃ x0 x1, f_law_fields (m : Int) d = some [x0, x1] ∧ DOk m x0 x1 := by
  refine ⟨(fldAll d m).1, (fldAll d m).2, ?_, fld_ok d m⟩
  unfold f_law_fields
  rw [if_pos ⟨by omega, by omega, by omega⟩]
  rfl
/-! ### deals -/
theorem copied_eq {x : List (List Int)} (h : x.length ≤ 100000) : f_copied x = some x := by
  unfold f_copied
  simp only [c1, c2, c3, c4, c5, cmap, cbind, cnx, crt, cfin, cfinN, cfinR, cfinO, cfinP, cexn, cfinX, cfinXe, cfinXn, cfinXr, cfinXx, addI_eq, subI_eq, negI_eq, ltI_eq, leI_eq, gtI_eq, geI_eq, eqM_eq, neM_eq, inM_eq, notInM_eq, andM_2, orM_2, notM_ss, iteM_ss, lenL_eq, cutM_eq, listM_eq, allM_eq, someM_ss, noneM_eq, revM_eq, consM_eq, minI_eq, maxI_eq, mk2_eq, mk3_eq, mk4_eq, anyM_eq, one1_eq, Bool.not_true, Bool.not_false]
  rw [lc_map (fun x => x) h fun x _ => rfl]
  simp only [c1, c2, c3, c4, c5, cmap, cbind, cnx, crt, cfin, cfinN, cfinR, cfinO, cfinP, cexn, cfinX, cfinXe, cfinXn, cfinXr, cfinXx, addI_eq, subI_eq, negI_eq, ltI_eq, leI_eq, gtI_eq, geI_eq, eqM_eq, neM_eq, inM_eq, notInM_eq, andM_2, orM_2, notM_ss, iteM_ss, lenL_eq, cutM_eq, listM_eq, allM_eq, someM_ss, noneM_eq, revM_eq, consM_eq, minI_eq, maxI_eq, mk2_eq, mk3_eq, mk4_eq, anyM_eq, one1_eq, Bool.not_true, Bool.not_false, List.map_id']
theorem copyI_eq {x : List (List Int)} (h : x.length ≤ 100000) : f_law_copy_I x = some x := by
  unfold f_law_copy_I
  simp only [c1, c2, c3, c4, c5, cmap, cbind, cnx, crt, cfin, cfinN, cfinR, cfinO, cfinP, cexn, cfinX, cfinXe, cfinXn, cfinXr, cfinXx, addI_eq, subI_eq, negI_eq, ltI_eq, leI_eq, gtI_eq, geI_eq, eqM_eq, neM_eq, inM_eq, notInM_eq, andM_2, orM_2, notM_ss, iteM_ss, lenL_eq, cutM_eq, listM_eq, allM_eq, someM_ss, noneM_eq, revM_eq, consM_eq, minI_eq, maxI_eq, mk2_eq, mk3_eq, mk4_eq, anyM_eq, one1_eq, Bool.not_true, Bool.not_false]
  rw [lc_map (fun x => x) h fun x _ => rfl]
  simp only [c1, c2, c3, c4, c5, cmap, cbind, cnx, crt, cfin, cfinN, cfinR, cfinO, cfinP, cexn, cfinX, cfinXe, cfinXn, cfinXr, cfinXx, addI_eq, subI_eq, negI_eq, ltI_eq, leI_eq, gtI_eq, geI_eq, eqM_eq, neM_eq, inM_eq, notInM_eq, andM_2, orM_2, notM_ss, iteM_ss, lenL_eq, cutM_eq, listM_eq, allM_eq, someM_ss, noneM_eq, revM_eq, consM_eq, minI_eq, maxI_eq, mk2_eq, mk3_eq, mk4_eq, anyM_eq, one1_eq, Bool.not_true, Bool.not_false, List.map_id']
theorem sum_le {xs : List (List Int)} (h : ∀ r ∈ xs, r.length ≤ 12) : xs.flatten.length ≤ 12 * xs.length := by
  induction xs with
  | nil => simp
  | cons x xs ih =>
    rw [List.flatten_cons, List.length_append, List.length_cons]
    have := h x (by simp)
    have := ih fun r hr => h r (by simp [hr])
    omega
theorem Fd.len {x : List (List Int)} (h : Fd x) : x.flatten.length ≤ 36 := by
  have := sum_le h.2.2; have := h.2.1; omega
theorem nodup_srt {xs : List Int} (h : xs.Nodup) : (srtI xs).length = xs.length := (srtI_lenE h fun _ => Iff.rfl).symm
theorem check_fields_ok {b : BL} {x0 x1 : List (List Int)} (h : DOk b.length x0 x1) : f_check_fields ⟨b⟩ [x0, x1] = some () := by
  obtain ⟨f0, f1, nd, inb⟩ := h
  have l0 := f0.len
  have l1 := f1.len
  unfold f_check_fields
  simp only [c1, c2, c3, c4, c5, cmap, cbind, cnx, crt, cfin, cfinN, cfinR, cfinO, cfinP, cexn, cfinX, cfinXe, cfinXn, cfinXr, cfinXx, addI_eq, subI_eq, negI_eq, ltI_eq, leI_eq, gtI_eq, geI_eq, eqM_eq, neM_eq, inM_eq, notInM_eq, andM_2, orM_2, notM_ss, iteM_ss, lenL_eq, cutM_eq, listM_eq, allM_eq, someM_ss, noneM_eq, revM_eq, consM_eq, minI_eq, maxI_eq, mk2_eq, mk3_eq, mk4_eq, anyM_eq, one1_eq, Bool.not_true, Bool.not_false]
  rw [for_unit fun x hx => ?_]
  · simp only [c1, c2, c3, c4, c5, cmap, cbind, cnx, crt, cfin, cfinN, cfinR, cfinO, cfinP, cexn, cfinX, cfinXe, cfinXn, cfinXr, cfinXx, addI_eq, subI_eq, negI_eq, ltI_eq, leI_eq, gtI_eq, geI_eq, eqM_eq, neM_eq, inM_eq, notInM_eq, andM_2, orM_2, notM_ss, iteM_ss, lenL_eq, cutM_eq, listM_eq, allM_eq, someM_ss, noneM_eq, revM_eq, consM_eq, minI_eq, maxI_eq, mk2_eq, mk3_eq, mk4_eq, anyM_eq, one1_eq, Bool.not_true, Bool.not_false]
    rw [catF_ok (h := fun x : List (List Int) => x.flatten) fun x hx => ?_]
    · rw [show ([x0, x1] : List (List (List Int))).flatMap (fun x => x.flatten) = x0.flatten ++ x1.flatten by simp]
      simp only [c1, c2, c3, c4, c5, cmap, cbind, cnx, crt, cfin, cfinN, cfinR, cfinO, cfinP, cexn, cfinX, cfinXe, cfinXn, cfinXr, cfinXx, addI_eq, subI_eq, negI_eq, ltI_eq, leI_eq, gtI_eq, geI_eq, eqM_eq, neM_eq, inM_eq, notInM_eq, andM_2, orM_2, notM_ss, iteM_ss, lenL_eq, cutM_eq, listM_eq, allM_eq, someM_ss, noneM_eq, revM_eq, consM_eq, minI_eq, maxI_eq, mk2_eq, mk3_eq, mk4_eq, anyM_eq, one1_eq, Bool.not_true, Bool.not_false]
      rw [lim_ok (by rw [List.length_append]; omega)]
      simp only [c1, c2, c3, c4, c5, cmap, cbind, cnx, crt, cfin, cfinN, cfinR, cfinO, cfinP, cexn, cfinX, cfinXe, cfinXn, cfinXr, cfinXx, addI_eq, subI_eq, negI_eq, ltI_eq, leI_eq, gtI_eq, geI_eq, eqM_eq, neM_eq, inM_eq, notInM_eq, andM_2, orM_2, notM_ss, iteM_ss, lenL_eq, cutM_eq, listM_eq, allM_eq, someM_ss, noneM_eq, revM_eq, consM_eq, minI_eq, maxI_eq, mk2_eq, mk3_eq, mk4_eq, anyM_eq, one1_eq, Bool.not_true, Bool.not_false]
      rw [lc_map (fun _ => true) (by rw [List.length_append]; omega) fun c hc => ?_]
      · simp only [c1, c2, c3, c4, c5, cmap, cbind, cnx, crt, cfin, cfinN, cfinR, cfinO, cfinP, cexn, cfinX, cfinXe, cfinXn, cfinXr, cfinXx, addI_eq, subI_eq, negI_eq, ltI_eq, leI_eq, gtI_eq, geI_eq, eqM_eq, neM_eq, inM_eq, notInM_eq, andM_2, orM_2, notM_ss, iteM_ss, lenL_eq, cutM_eq, listM_eq, allM_eq, someM_ss, noneM_eq, revM_eq, consM_eq, minI_eq, maxI_eq, mk2_eq, mk3_eq, mk4_eq, anyM_eq, one1_eq, Bool.not_true, Bool.not_false]
        have ha : (List.map (fun _ => true) (x0.flatten ++ x1.flatten)).all id = true := by rw [List.all_eq_true]; intro z hz; obtain ⟨_, _, rfl⟩ := List.mem_map.mp hz; rfl
        rw [ha]
        simp only [c1, c2, c3, c4, c5, cmap, cbind, cnx, crt, cfin, cfinN, cfinR, cfinO, cfinP, cexn, cfinX, cfinXe, cfinXn, cfinXr, cfinXx, addI_eq, subI_eq, negI_eq, ltI_eq, leI_eq, gtI_eq, geI_eq, eqM_eq, neM_eq, inM_eq, notInM_eq, andM_2, orM_2, notM_ss, iteM_ss, lenL_eq, cutM_eq, listM_eq, allM_eq, someM_ss, noneM_eq, revM_eq, consM_eq, minI_eq, maxI_eq, mk2_eq, mk3_eq, mk4_eq, anyM_eq, one1_eq, Bool.not_true, Bool.not_false, Bool.false_eq_true, if_false]
        unfold lenSetIM
        rw [if_pos (by rw [List.length_append]; omega), nodup_srt nd]
        simp only [c1, c2, c3, c4, c5, cmap, cbind, cnx, crt, cfin, cfinN, cfinR, cfinO, cfinP, cexn, cfinX, cfinXe, cfinXn, cfinXr, cfinXx, addI_eq, subI_eq, negI_eq, ltI_eq, leI_eq, gtI_eq, geI_eq, eqM_eq, neM_eq, inM_eq, notInM_eq, andM_2, orM_2, notM_ss, iteM_ss, lenL_eq, cutM_eq, listM_eq, allM_eq, someM_ss, noneM_eq, revM_eq, consM_eq, minI_eq, maxI_eq, mk2_eq, mk3_eq, mk4_eq, anyM_eq, one1_eq, Bool.not_true, Bool.not_false]
        rw [if_neg (by simp)]
        simp only [c1, c2, c3, c4, c5, cmap, cbind, cnx, crt, cfin, cfinN, cfinR, cfinO, cfinP, cexn, cfinX, cfinXe, cfinXn, cfinXr, cfinXx, addI_eq, subI_eq, negI_eq, ltI_eq, leI_eq, gtI_eq, geI_eq, eqM_eq, neM_eq, inM_eq, notInM_eq, andM_2, orM_2, notM_ss, iteM_ss, lenL_eq, cutM_eq, listM_eq, allM_eq, someM_ss, noneM_eq, revM_eq, consM_eq, minI_eq, maxI_eq, mk2_eq, mk3_eq, mk4_eq, anyM_eq, one1_eq, Bool.not_true, Bool.not_false]
      · obtain ⟨c0, c1⟩ := inb c hc
        rw [many_eq]
        rw [chM_i (leI_eq) (ltI_eq)]
        rw [decide_eq_true c0, decide_eq_true c1]
        rfl
    · simp only [if_true]
      rw [catF_ok (h := fun x : List Int => x) fun y hy => ?_]
      · rw [List.flatMap_id']
      · rw [catF_ok (h := fun c : Int => [c]) fun c hc => rfl]
        rw [show y.flatMap (fun c => [c]) = y by simp]
  · have hf : Fd x := by
      rcases List.mem_cons.mp hx with e | e
      · rw [e]; exact f0
      · rw [List.mem_singleton.mp e]; exact f1
    obtain ⟨a1, a2, a3⟩ := hf
    rw [chM_i (leI_eq) (leI_eq), decide_eq_true (by omega), decide_eq_true (by omega)]
    simp only [c1, c2, c3, c4, c5, cmap, cbind, cnx, crt, cfin, cfinN, cfinR, cfinO, cfinP, cexn, cfinX, cfinXe, cfinXn, cfinXr, cfinXx, addI_eq, subI_eq, negI_eq, ltI_eq, leI_eq, gtI_eq, geI_eq, eqM_eq, neM_eq, inM_eq, notInM_eq, andM_2, orM_2, notM_ss, iteM_ss, lenL_eq, cutM_eq, listM_eq, allM_eq, someM_ss, noneM_eq, revM_eq, consM_eq, minI_eq, maxI_eq, mk2_eq, mk3_eq, mk4_eq, anyM_eq, one1_eq, Bool.not_true, Bool.not_false, Bool.and_self, Bool.false_eq_true, if_false]
    rw [lc_map (xs := x) (fun r : List Int => decide ((12 : Int) < (r.length : Int))) (by omega) fun r _ => rfl]
    simp only [c1, c2, c3, c4, c5, cmap, cbind, cnx, crt, cfin, cfinN, cfinR, cfinO, cfinP, cexn, cfinX, cfinXe, cfinXn, cfinXr, cfinXx, addI_eq, subI_eq, negI_eq, ltI_eq, leI_eq, gtI_eq, geI_eq, eqM_eq, neM_eq, inM_eq, notInM_eq, andM_2, orM_2, notM_ss, iteM_ss, lenL_eq, cutM_eq, listM_eq, allM_eq, someM_ss, noneM_eq, revM_eq, consM_eq, minI_eq, maxI_eq, mk2_eq, mk3_eq, mk4_eq, anyM_eq, one1_eq, Bool.not_true, Bool.not_false]
    have ha : (x.map fun r => decide ((12 : Int) < (r.length : Int))).any id = false := by
      rw [List.any_eq_false]
      intro z hz
      obtain ⟨r, hr, rfl⟩ := List.mem_map.mp hz
      have := a3 r hr
      simp; omega
    rw [ha]
    simp only [c1, c2, c3, c4, c5, cmap, cbind, cnx, crt, cfin, cfinN, cfinR, cfinO, cfinP, cexn, cfinX, cfinXe, cfinXn, cfinXr, cfinXx, addI_eq, subI_eq, negI_eq, ltI_eq, leI_eq, gtI_eq, geI_eq, eqM_eq, neM_eq, inM_eq, notInM_eq, andM_2, orM_2, notM_ss, iteM_ss, lenL_eq, cutM_eq, listM_eq, allM_eq, someM_ss, noneM_eq, revM_eq, consM_eq, minI_eq, maxI_eq, mk2_eq, mk3_eq, mk4_eq, anyM_eq, one1_eq, Bool.not_true, Bool.not_false, Bool.false_eq_true, if_false]
theorem deal_init {b : BL} {x0 x1 : List (List Int)} (h : DOk b.length x0 x1) : f_Deal___init__ ⟨b⟩ x0 x1 = some ⟨⟨b⟩, [x0, x1]⟩ := by
  unfold f_Deal___init__
  have a0 := h.1.2.1
  have a1 := h.2.1.2.1
  simp only [c1, c2, c3, c4, c5, cmap, cbind, cnx, crt, cfin, cfinN, cfinR, cfinO, cfinP, cexn, cfinX, cfinXe, cfinXn, cfinXr, cfinXx, addI_eq, subI_eq, negI_eq, ltI_eq, leI_eq, gtI_eq, geI_eq, eqM_eq, neM_eq, inM_eq, notInM_eq, andM_2, orM_2, notM_ss, iteM_ss, lenL_eq, cutM_eq, listM_eq, allM_eq, someM_ss, noneM_eq, revM_eq, consM_eq, minI_eq, maxI_eq, mk2_eq, mk3_eq, mk4_eq, anyM_eq, one1_eq, Bool.not_true, Bool.not_false]
  rw [copied_eq (by omega), copied_eq (by omega)]
  simp only [c1, c2, c3, c4, c5, cmap, cbind, cnx, crt, cfin, cfinN, cfinR, cfinO, cfinP, cexn, cfinX, cfinXe, cfinXn, cfinXr, cfinXx, addI_eq, subI_eq, negI_eq, ltI_eq, leI_eq, gtI_eq, geI_eq, eqM_eq, neM_eq, inM_eq, notInM_eq, andM_2, orM_2, notM_ss, iteM_ss, lenL_eq, cutM_eq, listM_eq, allM_eq, someM_ss, noneM_eq, revM_eq, consM_eq, minI_eq, maxI_eq, mk2_eq, mk3_eq, mk4_eq, anyM_eq, one1_eq, Bool.not_true, Bool.not_false]
  rw [shortM_ok (by simp)]
  simp only [c1, c2, c3, c4, c5, cmap, cbind, cnx, crt, cfin, cfinN, cfinR, cfinO, cfinP, cexn, cfinX, cfinXe, cfinXn, cfinXr, cfinXx, addI_eq, subI_eq, negI_eq, ltI_eq, leI_eq, gtI_eq, geI_eq, eqM_eq, neM_eq, inM_eq, notInM_eq, andM_2, orM_2, notM_ss, iteM_ss, lenL_eq, cutM_eq, listM_eq, allM_eq, someM_ss, noneM_eq, revM_eq, consM_eq, minI_eq, maxI_eq, mk2_eq, mk3_eq, mk4_eq, anyM_eq, one1_eq, Bool.not_true, Bool.not_false]
  rw [check_fields_ok h]
  simp only [c1, c2, c3, c4, c5, cmap, cbind, cnx, crt, cfin, cfinN, cfinR, cfinO, cfinP, cexn, cfinX, cfinXe, cfinXn, cfinXr, cfinXx, addI_eq, subI_eq, negI_eq, ltI_eq, leI_eq, gtI_eq, geI_eq, eqM_eq, neM_eq, inM_eq, notInM_eq, andM_2, orM_2, notM_ss, iteM_ss, lenL_eq, cutM_eq, listM_eq, allM_eq, someM_ss, noneM_eq, revM_eq, consM_eq, minI_eq, maxI_eq, mk2_eq, mk3_eq, mk4_eq, anyM_eq, one1_eq, Bool.not_true, Bool.not_false]
  rfl
theorem made_ok {b : BL} {x0 x1 : List (List Int)} (h : DOk b.length x0 x1) : f_law_made ⟨b⟩ [x0, x1] = some ⟨⟨b⟩, [x0, x1]⟩ := by
  unfold f_law_made
  have a0 := h.1.2.1
  have a1 := h.2.1.2.1
  simp only [c1, c2, c3, c4, c5, cmap, cbind, cnx, crt, cfin, cfinN, cfinR, cfinO, cfinP, cexn, cfinX, cfinXe, cfinXn, cfinXr, cfinXx, addI_eq, subI_eq, negI_eq, ltI_eq, leI_eq, gtI_eq, geI_eq, eqM_eq, neM_eq, inM_eq, notInM_eq, andM_2, orM_2, notM_ss, iteM_ss, lenL_eq, cutM_eq, listM_eq, allM_eq, someM_ss, noneM_eq, revM_eq, consM_eq, minI_eq, maxI_eq, mk2_eq, mk3_eq, mk4_eq, anyM_eq, one1_eq, Bool.not_true, Bool.not_false]
  rw [show atI ([x0, x1] : List (List (List Int))) 0 = some x0 from rfl, show atI ([x0, x1] : List (List (List Int))) 1 = some x1 from rfl]
  simp only [c1, c2, c3, c4, c5, cmap, cbind, cnx, crt, cfin, cfinN, cfinR, cfinO, cfinP, cexn, cfinX, cfinXe, cfinXn, cfinXr, cfinXx, addI_eq, subI_eq, negI_eq, ltI_eq, leI_eq, gtI_eq, geI_eq, eqM_eq, neM_eq, inM_eq, notInM_eq, andM_2, orM_2, notM_ss, iteM_ss, lenL_eq, cutM_eq, listM_eq, allM_eq, someM_ss, noneM_eq, revM_eq, consM_eq, minI_eq, maxI_eq, mk2_eq, mk3_eq, mk4_eq, anyM_eq, one1_eq, Bool.not_true, Bool.not_false]
  rw [copyI_eq (by omega), copyI_eq (by omega)]
  simp only [c1, c2, c3, c4, c5, cmap, cbind, cnx, crt, cfin, cfinN, cfinR, cfinO, cfinP, cexn, cfinX, cfinXe, cfinXn, cfinXr, cfinXx, addI_eq, subI_eq, negI_eq, ltI_eq, leI_eq, gtI_eq, geI_eq, eqM_eq, neM_eq, inM_eq, notInM_eq, andM_2, orM_2, notM_ss, iteM_ss, lenL_eq, cutM_eq, listM_eq, allM_eq, someM_ss, noneM_eq, revM_eq, consM_eq, minI_eq, maxI_eq, mk2_eq, mk3_eq, mk4_eq, anyM_eq, one1_eq, Bool.not_true, Bool.not_false]
  rw [deal_init h]
  simp only [c1, c2, c3, c4, c5, cmap, cbind, cnx, crt, cfin, cfinN, cfinR, cfinO, cfinP, cexn, cfinX, cfinXe, cfinXn, cfinXr, cfinXx, addI_eq, subI_eq, negI_eq, ltI_eq, leI_eq, gtI_eq, geI_eq, eqM_eq, neM_eq, inM_eq, notInM_eq, andM_2, orM_2, notM_ss, iteM_ss, lenL_eq, cutM_eq, listM_eq, allM_eq, someM_ss, noneM_eq, revM_eq, consM_eq, minI_eq, maxI_eq, mk2_eq, mk3_eq, mk4_eq, anyM_eq, one1_eq, Bool.not_true, Bool.not_false]
/-- the field f -/
def fAt (x0 x1 : List (List Int)) (f : Int) : List (List Int) := if f = 0 then x0 else x1
theorem check_field_ok {f : Int} (h : f = 0 ∨ f = 1) : f_check_field f = some () := by
  unfold f_check_field
  rw [chM_i (leI_eq) (leI_eq), decide_eq_true (by omega), decide_eq_true (by omega)]
  simp only [c1, c2, c3, c4, c5, cmap, cbind, cnx, crt, cfin, cfinN, cfinR, cfinO, cfinP, cexn, cfinX, cfinXe, cfinXn, cfinXr, cfinXx, addI_eq, subI_eq, negI_eq, ltI_eq, leI_eq, gtI_eq, geI_eq, eqM_eq, neM_eq, inM_eq, notInM_eq, andM_2, orM_2, notM_ss, iteM_ss, lenL_eq, cutM_eq, listM_eq, allM_eq, someM_ss, noneM_eq, revM_eq, consM_eq, minI_eq, maxI_eq, mk2_eq, mk3_eq, mk4_eq, anyM_eq, one1_eq, Bool.not_true, Bool.not_false, Bool.and_self, Bool.false_eq_true, if_false]
theorem fAt_fd {m : Nat} {x0 x1 : List (List Int)} (h : DOk m x0 x1) (f : Int) : Fd (fAt x0 x1 f) := by
  unfold fAt; split
  · exact h.1
  · exact h.2.1
theorem atI_f {x0 x1 : List (List Int)} {f : Int} (h : f = 0 ∨ f = 1) : atI ([x0, x1] : List (List (List Int))) f = some (fAt x0 x1 f) := by
  rcases h with rfl | rfl <;> rfl
theorem rows_ok {b : BookT} {m : Nat} {x0 x1 : List (List Int)} (hd : DOk m x0 x1) {f : Int} (h : f = 0 ∨ f = 1) : f_Deal_rows ⟨b, [x0, x1]⟩ f = some (fAt x0 x1 f) := by
  unfold f_Deal_rows
  simp only [c1, c2, c3, c4, c5, cmap, cbind, cnx, crt, cfin, cfinN, cfinR, cfinO, cfinP, cexn, cfinX, cfinXe, cfinXn, cfinXr, cfinXx, addI_eq, subI_eq, negI_eq, ltI_eq, leI_eq, gtI_eq, geI_eq, eqM_eq, neM_eq, inM_eq, notInM_eq, andM_2, orM_2, notM_ss, iteM_ss, lenL_eq, cutM_eq, listM_eq, allM_eq, someM_ss, noneM_eq, revM_eq, consM_eq, minI_eq, maxI_eq, mk2_eq, mk3_eq, mk4_eq, anyM_eq, one1_eq, Bool.not_true, Bool.not_false]
  rw [check_field_ok h, atI_f h]
  simp only [c1, c2, c3, c4, c5, cmap, cbind, cnx, crt, cfin, cfinN, cfinR, cfinO, cfinP, cexn, cfinX, cfinXe, cfinXn, cfinXr, cfinXx, addI_eq, subI_eq, negI_eq, ltI_eq, leI_eq, gtI_eq, geI_eq, eqM_eq, neM_eq, inM_eq, notInM_eq, andM_2, orM_2, notM_ss, iteM_ss, lenL_eq, cutM_eq, listM_eq, allM_eq, someM_ss, noneM_eq, revM_eq, consM_eq, minI_eq, maxI_eq, mk2_eq, mk3_eq, mk4_eq, anyM_eq, one1_eq, Bool.not_true, Bool.not_false]
  rw [copied_eq (by have := (fAt_fd hd f).2.1; omega)]
  simp only [c1, c2, c3, c4, c5, cmap, cbind, cnx, crt, cfin, cfinN, cfinR, cfinO, cfinP, cexn, cfinX, cfinXe, cfinXn, cfinXr, cfinXx, addI_eq, subI_eq, negI_eq, ltI_eq, leI_eq, gtI_eq, geI_eq, eqM_eq, neM_eq, inM_eq, notInM_eq, andM_2, orM_2, notM_ss, iteM_ss, lenL_eq, cutM_eq, listM_eq, allM_eq, someM_ss, noneM_eq, revM_eq, consM_eq, minI_eq, maxI_eq, mk2_eq, mk3_eq, mk4_eq, anyM_eq, one1_eq, Bool.not_true, Bool.not_false]
def stray (x0 x1 : List (List Int)) (vs : List Int) (f : Int) : List Int := vs.filter fun v => !decide (v ∈ (fAt x0 x1 f).flatten)
def home (x0 x1 : List (List Int)) (v : Int) : Int := if v ∈ x0.flatten then 0 else if v ∈ x1.flatten then 1 else -1
theorem mem_any {v : Int} {rs : List (List Int)} : ((rs.map fun r => decide (v ∈ r)).any id) = decide (v ∈ rs.flatten) := by
  rw [Bool.eq_iff_iff, List.any_eq_true, decide_eq_true_iff, List.mem_flatten]
  constructor
  · rintro ⟨z, hz, h⟩
    obtain ⟨r, hr, rfl⟩ := List.mem_map.mp hz
    exact ⟨r, hr, of_decide_eq_true h⟩
  · rintro ⟨r, hr, h⟩
    exact ⟨_, List.mem_map.mpr ⟨r, hr, rfl⟩, decide_eq_true h⟩
theorem home_ok {m : Nat} {x0 x1 : List (List Int)} (hd : DOk m x0 x1) (v : Int) : f_law_home [x0, x1] v = some (home x0 x1 v) := by
  have a0 := hd.1.2.1
  have a1 := hd.2.1.2.1
  unfold f_law_home
  simp only [c1, c2, c3, c4, c5, cmap, cbind, cnx, crt, cfin, cfinN, cfinR, cfinO, cfinP, cexn, cfinX, cfinXe, cfinXn, cfinXr, cfinXx, addI_eq, subI_eq, negI_eq, ltI_eq, leI_eq, gtI_eq, geI_eq, eqM_eq, neM_eq, inM_eq, notInM_eq, andM_2, orM_2, notM_ss, iteM_ss, lenL_eq, cutM_eq, listM_eq, allM_eq, someM_ss, noneM_eq, revM_eq, consM_eq, minI_eq, maxI_eq, mk2_eq, mk3_eq, mk4_eq, anyM_eq, one1_eq, Bool.not_true, Bool.not_false]
  rw [rngM_ok (by omega) (by omega)]
  simp only [c1, c2, c3, c4, c5, cmap, cbind, cnx, crt, cfin, cfinN, cfinR, cfinO, cfinP, cexn, cfinX, cfinXe, cfinXn, cfinXr, cfinXx, addI_eq, subI_eq, negI_eq, ltI_eq, leI_eq, gtI_eq, geI_eq, eqM_eq, neM_eq, inM_eq, notInM_eq, andM_2, orM_2, notM_ss, iteM_ss, lenL_eq, cutM_eq, listM_eq, allM_eq, someM_ss, noneM_eq, revM_eq, consM_eq, minI_eq, maxI_eq, mk2_eq, mk3_eq, mk4_eq, anyM_eq, one1_eq, Bool.not_true, Bool.not_false]
  rw [show (List.range (2 : Int).toNat).map (fun n : Nat => (n : Int)) = [0, 1] from rfl]
  rw [lc_filter (fun f => decide (v ∈ (fAt x0 x1 f).flatten)) (by simp) fun f hf => ?_]
  · simp only [c1, c2, c3, c4, c5, cmap, cbind, cnx, crt, cfin, cfinN, cfinR, cfinO, cfinP, cexn, cfinX, cfinXe, cfinXn, cfinXr, cfinXx, addI_eq, subI_eq, negI_eq, ltI_eq, leI_eq, gtI_eq, geI_eq, eqM_eq, neM_eq, inM_eq, notInM_eq, andM_2, orM_2, notM_ss, iteM_ss, lenL_eq, cutM_eq, listM_eq, allM_eq, someM_ss, noneM_eq, revM_eq, consM_eq, minI_eq, maxI_eq, mk2_eq, mk3_eq, mk4_eq, anyM_eq, one1_eq, Bool.not_true, Bool.not_false]
    rw [shortM_ok (by simp)]
    simp only [c1, c2, c3, c4, c5, cmap, cbind, cnx, crt, cfin, cfinN, cfinR, cfinO, cfinP, cexn, cfinX, cfinXe, cfinXn, cfinXr, cfinXx, addI_eq, subI_eq, negI_eq, ltI_eq, leI_eq, gtI_eq, geI_eq, eqM_eq, neM_eq, inM_eq, notInM_eq, andM_2, orM_2, notM_ss, iteM_ss, lenL_eq, cutM_eq, listM_eq, allM_eq, someM_ss, noneM_eq, revM_eq, consM_eq, minI_eq, maxI_eq, mk2_eq, mk3_eq, mk4_eq, anyM_eq, one1_eq, Bool.not_true, Bool.not_false]
    unfold home
    by_cases h0 : v ∈ x0.flatten
    · by_cases h1 : v ∈ x1.flatten
      · rw [if_pos h0]; simp [List.filter, fAt, h0, h1, catM, atI, ixN, b1]
      · rw [if_pos h0]; simp [List.filter, fAt, h0, h1, catM, atI, ixN, b1]
    · rw [if_neg h0]
      by_cases h1 : v ∈ x1.flatten
      · rw [if_pos h1]; simp [List.filter, fAt, h0, h1, catM, atI, ixN, b1]
      · rw [if_neg h1]; simp [List.filter, fAt, h0, h1, catM, atI, ixN, b1]
  · have hf' : f = 0 ∨ f = 1 := by simpa using hf
    rw [atI_f hf']
    simp only [c1, c2, c3, c4, c5, cmap, cbind, cnx, crt, cfin, cfinN, cfinR, cfinO, cfinP, cexn, cfinX, cfinXe, cfinXn, cfinXr, cfinXx, addI_eq, subI_eq, negI_eq, ltI_eq, leI_eq, gtI_eq, geI_eq, eqM_eq, neM_eq, inM_eq, notInM_eq, andM_2, orM_2, notM_ss, iteM_ss, lenL_eq, cutM_eq, listM_eq, allM_eq, someM_ss, noneM_eq, revM_eq, consM_eq, minI_eq, maxI_eq, mk2_eq, mk3_eq, mk4_eq, anyM_eq, one1_eq, Bool.not_true, Bool.not_false]
    rw [lc_map (fun r => decide (v ∈ r)) (by have := (fAt_fd hd f).2.1; omega) fun r _ => rfl]
    simp only [c1, c2, c3, c4, c5, cmap, cbind, cnx, crt, cfin, cfinN, cfinR, cfinO, cfinP, cexn, cfinX, cfinXe, cfinXn, cfinXr, cfinXx, addI_eq, subI_eq, negI_eq, ltI_eq, leI_eq, gtI_eq, geI_eq, eqM_eq, neM_eq, inM_eq, notInM_eq, andM_2, orM_2, notM_ss, iteM_ss, lenL_eq, cutM_eq, listM_eq, allM_eq, someM_ss, noneM_eq, revM_eq, consM_eq, minI_eq, maxI_eq, mk2_eq, mk3_eq, mk4_eq, anyM_eq, one1_eq, Bool.not_true, Bool.not_false, mem_any]
theorem on_ok {m : Nat} {x0 x1 : List (List Int)} (hd : DOk m x0 x1) {vs : List Int} (hl : vs.length ≤ 1000) (f : Int) : f_law_on [x0, x1] vs f = some (decide (∀ v ∈ vs, home x0 x1 v = f)) := by
  unfold f_law_on
  simp only [c1, c2, c3, c4, c5, cmap, cbind, cnx, crt, cfin, cfinN, cfinR, cfinO, cfinP, cexn, cfinX, cfinXe, cfinXn, cfinXr, cfinXx, addI_eq, subI_eq, negI_eq, ltI_eq, leI_eq, gtI_eq, geI_eq, eqM_eq, neM_eq, inM_eq, notInM_eq, andM_2, orM_2, notM_ss, iteM_ss, lenL_eq, cutM_eq, listM_eq, allM_eq, someM_ss, noneM_eq, revM_eq, consM_eq, minI_eq, maxI_eq, mk2_eq, mk3_eq, mk4_eq, anyM_eq, one1_eq, Bool.not_true, Bool.not_false]
  rw [lc_map (fun v => decide (home x0 x1 v = f)) (by omega) fun v _ => by rw [home_ok hd]; rfl]
  simp only [c1, c2, c3, c4, c5, cmap, cbind, cnx, crt, cfin, cfinN, cfinR, cfinO, cfinP, cexn, cfinX, cfinXe, cfinXn, cfinXr, cfinXx, addI_eq, subI_eq, negI_eq, ltI_eq, leI_eq, gtI_eq, geI_eq, eqM_eq, neM_eq, inM_eq, notInM_eq, andM_2, orM_2, notM_ss, iteM_ss, lenL_eq, cutM_eq, listM_eq, allM_eq, someM_ss, noneM_eq, revM_eq, consM_eq, minI_eq, maxI_eq, mk2_eq, mk3_eq, mk4_eq, anyM_eq, one1_eq, Bool.not_true, Bool.not_false]
  congr 1
  rw [Bool.eq_iff_iff, List.all_eq_true, decide_eq_true_iff]
  constructor
  · intro h v hv
    exact of_decide_eq_true (h _ (List.mem_map.mpr ⟨v, hv, rfl⟩))
  · intro h z hz
    obtain ⟨v, hv, rfl⟩ := List.mem_map.mp hz
    exact decide_eq_true (h v hv)
/-- the fields on which sweeps are faultless -/
def free (x0 x1 : List (List Int)) (vs : List Int) : List Int := [(0 : Int), 1].filter fun f => decide (∀ v ∈ vs, home x0 x1 v = f)
theorem r2 : (List.range (2 : Int).toNat).map (fun n : Nat => (n : Int)) = [0, 1] := rfl
end Kj

set_option Elab.async false
set_option linter.all false
set_option maxRecDepth 100000
set_option maxHeartbeats 4000000
/-! KjMk: what the laws of deals draw and reckon. -/
namespace Kj
open PySem L2
theorem meet_ref {b : BL} {u : List Int} {hd : List Str} (hb : b.length ≤ 40) (h : ∀ n ∈ u, InB b n) : f_law_meet b u hd = some (meet b u hd) := by
  unfold f_law_meet
  simp only [c1, c2, c3, c4, c5, cmap, cbind, cnx, crt, cfin, cfinN, cfinR, cfinO, cfinP, cexn, cfinX, cfinXe, cfinXn, cfinXr, cfinXx, addI_eq, subI_eq, negI_eq, ltI_eq, leI_eq, gtI_eq, geI_eq, eqM_eq, neM_eq, inM_eq, notInM_eq, andM_2, orM_2, notM_ss, iteM_ss, lenL_eq, cutM_eq, listM_eq, allM_eq, someM_ss, noneM_eq, revM_eq, consM_eq, minI_eq, maxI_eq, mk2_eq]
  rw [rngM_ok (by omega) (by omega)]
  simp only [c1, c2, c3, c4, c5, cmap, cbind, cnx, crt, cfin, cfinN, cfinR, cfinO, cfinP, cexn, cfinX, cfinXe, cfinXn, cfinXr, cfinXx, addI_eq, subI_eq, negI_eq, ltI_eq, leI_eq, gtI_eq, geI_eq, eqM_eq, neM_eq, inM_eq, notInM_eq, andM_2, orM_2, notM_ss, iteM_ss, lenL_eq, cutM_eq, listM_eq, allM_eq, someM_ss, noneM_eq, revM_eq, consM_eq, minI_eq, maxI_eq, mk2_eq]
  rw [lc_filter (fun n => decide (n ∈ u) && decide ((vAt b n).take hd.length = hd)) (by simp; omega) fun x hx => by
    obtain ⟨k, hk, rfl⟩ := List.mem_map.mp hx
    have := List.mem_range.mp hk
    rw [atI_v (b := b) ⟨by omega, by omega⟩]
    simp only [c1, c2, c3, c4, c5, cmap, cbind, cnx, crt, cfin, cfinN, cfinR, cfinO, cfinP, cexn, cfinX, cfinXe, cfinXn, cfinXr, cfinXx, addI_eq, subI_eq, negI_eq, ltI_eq, leI_eq, gtI_eq, geI_eq, eqM_eq, neM_eq, inM_eq, notInM_eq, andM_2, orM_2, notM_ss, iteM_ss, lenL_eq, cutM_eq, listM_eq, allM_eq, someM_ss, noneM_eq, revM_eq, consM_eq, minI_eq, maxI_eq, mk2_eq]
    rw [cutD_to _ (by omega)]
    rfl]
  simp only [c1, c2, c3, c4, c5, cmap, cbind, cnx, crt, cfin, cfinN, cfinR, cfinO, cfinP, cexn, cfinX, cfinXe, cfinXn, cfinXr, cfinXx, addI_eq, subI_eq, negI_eq, ltI_eq, leI_eq, gtI_eq, geI_eq, eqM_eq, neM_eq, inM_eq, notInM_eq, andM_2, orM_2, notM_ss, iteM_ss, lenL_eq, cutM_eq, listM_eq, allM_eq, someM_ss, noneM_eq, revM_eq, consM_eq, minI_eq, maxI_eq, mk2_eq]
  congr 1
  refine pw_unique (List.Pairwise.filter _ ?_) ((srtI_pw u).sublist List.filter_sublist) fun k => ?_
  · rw [List.pairwise_map]
    exact (List.pairwise_lt_range (n := ((b.length : Nat) : Int).toNat)).imp fun h => by omega
  · rw [mem_meet, List.mem_filter, Bool.and_eq_true, decide_eq_true_iff, decide_eq_true_iff]
    constructor
    · rintro ⟨_, h1, h2⟩; exact ⟨h1, h2⟩
    · rintro ⟨h1, h2⟩
      obtain ⟨k0, k1⟩ := h k h1
      exact ⟨List.mem_map.mpr ⟨k.toNat, List.mem_range.mpr (by omega), by omega⟩, h1, h2⟩
theorem free_ok {b : BL} {x0 x1 : List (List Int)} (hb : b.length ≤ 40) (hd : DOk b.length x0 x1) {u : List Int} {hh : List Str} (h : ∀ n ∈ u, InB b n) (hl : u.length < 64) : f_law_free b [x0, x1] u hh = some (free x0 x1 (meet b u hh)) := by
  unfold f_law_free
  have hm := meet_len b u hh
  simp only [c1, c2, c3, c4, c5, cmap, cbind, cnx, crt, cfin, cfinN, cfinR, cfinO, cfinP, cexn, cfinX, cfinXe, cfinXn, cfinXr, cfinXx, addI_eq, subI_eq, negI_eq, ltI_eq, leI_eq, gtI_eq, geI_eq, eqM_eq, neM_eq, inM_eq, notInM_eq, andM_2, orM_2, notM_ss, iteM_ss, lenL_eq, cutM_eq, listM_eq, allM_eq, someM_ss, noneM_eq, revM_eq, consM_eq, minI_eq, maxI_eq, mk2_eq, mk3_eq, mk4_eq, anyM_eq, one1_eq, Bool.not_true, Bool.not_false, meet_ref hb h]
  rw [rngM_ok (by omega) (by omega), r2]
  simp only [c1, c2, c3, c4, c5, cmap, cbind, cnx, crt, cfin, cfinN, cfinR, cfinO, cfinP, cexn, cfinX, cfinXe, cfinXn, cfinXr, cfinXx, addI_eq, subI_eq, negI_eq, ltI_eq, leI_eq, gtI_eq, geI_eq, eqM_eq, neM_eq, inM_eq, notInM_eq, andM_2, orM_2, notM_ss, iteM_ss, lenL_eq, cutM_eq, listM_eq, allM_eq, someM_ss, noneM_eq, revM_eq, consM_eq, minI_eq, maxI_eq, mk2_eq, mk3_eq, mk4_eq, anyM_eq, one1_eq, Bool.not_true, Bool.not_false]
  rw [lc_filter (fun f => decide (∀ v ∈ meet b u hh, home x0 x1 v = f)) (by simp) fun f hf => on_ok hd (by omega) f]
  simp only [c1, c2, c3, c4, c5, cmap, cbind, cnx, crt, cfin, cfinN, cfinR, cfinO, cfinP, cexn, cfinX, cfinXe, cfinXn, cfinXr, cfinXx, addI_eq, subI_eq, negI_eq, ltI_eq, leI_eq, gtI_eq, geI_eq, eqM_eq, neM_eq, inM_eq, notInM_eq, andM_2, orM_2, notM_ss, iteM_ss, lenL_eq, cutM_eq, listM_eq, allM_eq, someM_ss, noneM_eq, revM_eq, consM_eq, minI_eq, maxI_eq, mk2_eq, mk3_eq, mk4_eq, anyM_eq, one1_eq, Bool.not_true, Bool.not_false]
  rfl
theorem Unr.in {b : BL} {u : List Int} (h : Unr b.length u) : ∀ n ∈ u, InB b n := fun n hn => h.2 n hn
end Kj

set_option Elab.async false
set_option linter.all false
set_option maxRecDepth 100000
set_option maxHeartbeats 4000000
/-! KjMl: where cards lie, and moments. -/
namespace Kj
open PySem L2
/-- the size from which on a sweep is faultless -/
def mom (b : BL) (u : List Int) (v : Int) (x0 x1 : List (List Int)) : Nat := ((stray x0 x1 (riv b u v 0) (home x0 x1 v)).map fun n => shr (vAt b v) (vAt b n) + 1).foldr max 0
end Kj

set_option Elab.async false
set_option linter.all false
set_option maxRecDepth 100000
set_option maxHeartbeats 4000000
/-! KjMm: sweeps. -/
namespace Kj
open PySem L2
def SwOk (x0 x1 : List (List Int)) (s : P4 Int Int Int Int) : Prop := (s.a = 0 ∨ s.a = 1) ∧ 0 ≤ s.b ∧ s.b < (fAt x0 x1 s.a).length ∧ 0 ≤ s.c ∧ s.c ≤ s.d ∧ s.d < ((fAt x0 x1 s.a).getD s.b.toNat []).length
theorem check_row_ok {b : BookT} {m : Nat} {x0 x1 : List (List Int)} (hd : DOk m x0 x1) {f r : Int} (hf : f = 0 ∨ f = 1) (h0 : 0 ≤ r) (h1 : r < (fAt x0 x1 f).length) : f_check_row ⟨b, [x0, x1]⟩ f r = some () := by
  unfold f_check_row
  simp only [c1, c2, c3, c4, c5, cmap, cbind, cnx, crt, cfin, cfinN, cfinR, cfinO, cfinP, cexn, cfinX, cfinXe, cfinXn, cfinXr, cfinXx, addI_eq, subI_eq, negI_eq, ltI_eq, leI_eq, gtI_eq, geI_eq, eqM_eq, neM_eq, inM_eq, notInM_eq, andM_2, orM_2, notM_ss, iteM_ss, lenL_eq, cutM_eq, listM_eq, allM_eq, someM_ss, noneM_eq, revM_eq, consM_eq, minI_eq, maxI_eq, mk2_eq, mk3_eq, mk4_eq, anyM_eq, one1_eq, Bool.not_true, Bool.not_false, rows_ok hd hf]
  rw [chM_i (leI_eq) (ltI_eq), decide_eq_true h0, decide_eq_true h1]
  simp only [c1, c2, c3, c4, c5, cmap, cbind, cnx, crt, cfin, cfinN, cfinR, cfinO, cfinP, cexn, cfinX, cfinXe, cfinXn, cfinXr, cfinXx, addI_eq, subI_eq, negI_eq, ltI_eq, leI_eq, gtI_eq, geI_eq, eqM_eq, neM_eq, inM_eq, notInM_eq, andM_2, orM_2, notM_ss, iteM_ss, lenL_eq, cutM_eq, listM_eq, allM_eq, someM_ss, noneM_eq, revM_eq, consM_eq, minI_eq, maxI_eq, mk2_eq, mk3_eq, mk4_eq, anyM_eq, one1_eq, Bool.not_true, Bool.not_false, Bool.and_self, Bool.false_eq_true, if_false]
theorem check_sweep_ok {b : BookT} {m : Nat} {x0 x1 : List (List Int)} (hd : DOk m x0 x1) {s : P4 Int Int Int Int} (h : SwOk x0 x1 s) : f_check_sweep ⟨b, [x0, x1]⟩ s = some () := by
  obtain ⟨hf, h0, h1, h2, h3, h4⟩ := h
  unfold f_check_sweep
  simp only [c1, c2, c3, c4, c5, cmap, cbind, cnx, crt, cfin, cfinN, cfinR, cfinO, cfinP, cexn, cfinX, cfinXe, cfinXn, cfinXr, cfinXx, addI_eq, subI_eq, negI_eq, ltI_eq, leI_eq, gtI_eq, geI_eq, eqM_eq, neM_eq, inM_eq, notInM_eq, andM_2, orM_2, notM_ss, iteM_ss, lenL_eq, cutM_eq, listM_eq, allM_eq, someM_ss, noneM_eq, revM_eq, consM_eq, minI_eq, maxI_eq, mk2_eq, mk3_eq, mk4_eq, anyM_eq, one1_eq, Bool.not_true, Bool.not_false, check_row_ok hd hf h0 h1, rows_ok hd hf]
  rw [atI_ok (z := []) h0 h1]
  simp only [c1, c2, c3, c4, c5, cmap, cbind, cnx, crt, cfin, cfinN, cfinR, cfinO, cfinP, cexn, cfinX, cfinXe, cfinXn, cfinXr, cfinXx, addI_eq, subI_eq, negI_eq, ltI_eq, leI_eq, gtI_eq, geI_eq, eqM_eq, neM_eq, inM_eq, notInM_eq, andM_2, orM_2, notM_ss, iteM_ss, lenL_eq, cutM_eq, listM_eq, allM_eq, someM_ss, noneM_eq, revM_eq, consM_eq, minI_eq, maxI_eq, mk2_eq, mk3_eq, mk4_eq, anyM_eq, one1_eq, Bool.not_true, Bool.not_false]
  rw [chM3_i leI_eq leI_eq ltI_eq, decide_eq_true h2, decide_eq_true h3, decide_eq_true h4]
  simp only [c1, c2, c3, c4, c5, cmap, cbind, cnx, crt, cfin, cfinN, cfinR, cfinO, cfinP, cexn, cfinX, cfinXe, cfinXn, cfinXr, cfinXx, addI_eq, subI_eq, negI_eq, ltI_eq, leI_eq, gtI_eq, geI_eq, eqM_eq, neM_eq, inM_eq, notInM_eq, andM_2, orM_2, notM_ss, iteM_ss, lenL_eq, cutM_eq, listM_eq, allM_eq, someM_ss, noneM_eq, revM_eq, consM_eq, minI_eq, maxI_eq, mk2_eq, mk3_eq, mk4_eq, anyM_eq, one1_eq, Bool.not_true, Bool.not_false, Bool.and_self, Bool.false_eq_true, if_false]
def swp (x0 x1 : List (List Int)) (s : P4 Int Int Int Int) : List Int := cutD ((fAt x0 x1 s.a).getD s.b.toNat []) (some s.c) (some (s.d + 1))
theorem swept_ok {b : BookT} {m : Nat} {x0 x1 : List (List Int)} (hd : DOk m x0 x1) {s : P4 Int Int Int Int} (h : SwOk x0 x1 s) : f_Deal_swept ⟨b, [x0, x1]⟩ s = some (swp x0 x1 s) := by
  have hc := check_sweep_ok (b := b) hd h
  obtain ⟨hf, h0, h1, h2, h3, h4⟩ := h
  unfold f_Deal_swept
  simp only [c1, c2, c3, c4, c5, cmap, cbind, cnx, crt, cfin, cfinN, cfinR, cfinO, cfinP, cexn, cfinX, cfinXe, cfinXn, cfinXr, cfinXx, addI_eq, subI_eq, negI_eq, ltI_eq, leI_eq, gtI_eq, geI_eq, eqM_eq, neM_eq, inM_eq, notInM_eq, andM_2, orM_2, notM_ss, iteM_ss, lenL_eq, cutM_eq, listM_eq, allM_eq, someM_ss, noneM_eq, revM_eq, consM_eq, minI_eq, maxI_eq, mk2_eq, mk3_eq, mk4_eq, anyM_eq, one1_eq, Bool.not_true, Bool.not_false, hc, atI_f hf]
  rw [atI_ok (z := []) h0 h1]
  simp only [c1, c2, c3, c4, c5, cmap, cbind, cnx, crt, cfin, cfinN, cfinR, cfinO, cfinP, cexn, cfinX, cfinXe, cfinXn, cfinXr, cfinXx, addI_eq, subI_eq, negI_eq, ltI_eq, leI_eq, gtI_eq, geI_eq, eqM_eq, neM_eq, inM_eq, notInM_eq, andM_2, orM_2, notM_ss, iteM_ss, lenL_eq, cutM_eq, listM_eq, allM_eq, someM_ss, noneM_eq, revM_eq, consM_eq, minI_eq, maxI_eq, mk2_eq, mk3_eq, mk4_eq, anyM_eq, one1_eq, Bool.not_true, Bool.not_false]
  rfl
theorem touched_ok {m : Nat} {x0 x1 : List (List Int)} (hd : DOk m x0 x1) {s : P4 Int Int Int Int} (h : SwOk x0 x1 s) : f_law_touched [x0, x1] s = some (swp x0 x1 s) := by
  obtain ⟨hf, h0, h1, h2, h3, h4⟩ := h
  unfold f_law_touched
  simp only [c1, c2, c3, c4, c5, cmap, cbind, cnx, crt, cfin, cfinN, cfinR, cfinO, cfinP, cexn, cfinX, cfinXe, cfinXn, cfinXr, cfinXx, addI_eq, subI_eq, negI_eq, ltI_eq, leI_eq, gtI_eq, geI_eq, eqM_eq, neM_eq, inM_eq, notInM_eq, andM_2, orM_2, notM_ss, iteM_ss, lenL_eq, cutM_eq, listM_eq, allM_eq, someM_ss, noneM_eq, revM_eq, consM_eq, minI_eq, maxI_eq, mk2_eq, mk3_eq, mk4_eq, anyM_eq, one1_eq, Bool.not_true, Bool.not_false, atI_f hf]
  rw [atI_ok (z := []) h0 h1]
  simp only [c1, c2, c3, c4, c5, cmap, cbind, cnx, crt, cfin, cfinN, cfinR, cfinO, cfinP, cexn, cfinX, cfinXe, cfinXn, cfinXr, cfinXx, addI_eq, subI_eq, negI_eq, ltI_eq, leI_eq, gtI_eq, geI_eq, eqM_eq, neM_eq, inM_eq, notInM_eq, andM_2, orM_2, notM_ss, iteM_ss, lenL_eq, cutM_eq, listM_eq, allM_eq, someM_ss, noneM_eq, revM_eq, consM_eq, minI_eq, maxI_eq, mk2_eq, mk3_eq, mk4_eq, anyM_eq, one1_eq, Bool.not_true, Bool.not_false]
  rfl
theorem law_sweeps_ok {m : Nat} {x0 x1 : List (List Int)} (hd : DOk m x0 x1) : ∃ ss, f_law_sweeps [x0, x1] = some ss ∧ (∀ s ∈ ss, SwOk x0 x1 s) ∧ ss.length ≤ 864 := by
  unfold f_law_sweeps
  simp only [c1, c2, c3, c4, c5, cmap, cbind, cnx, crt, cfin, cfinN, cfinR, cfinO, cfinP, cexn, cfinX, cfinXe, cfinXn, cfinXr, cfinXx, addI_eq, subI_eq, negI_eq, ltI_eq, leI_eq, gtI_eq, geI_eq, eqM_eq, neM_eq, inM_eq, notInM_eq, andM_2, orM_2, notM_ss, iteM_ss, lenL_eq, cutM_eq, listM_eq, allM_eq, someM_ss, noneM_eq, revM_eq, consM_eq, minI_eq, maxI_eq, mk2_eq, mk3_eq, mk4_eq, anyM_eq, one1_eq, Bool.not_true, Bool.not_false]
  rw [shortM_ok (by simp), rngM_ok (by omega) (by omega), r2]
  simp only [c1, c2, c3, c4, c5, cmap, cbind, cnx, crt, cfin, cfinN, cfinR, cfinO, cfinP, cexn, cfinX, cfinXe, cfinXn, cfinXr, cfinXx, addI_eq, subI_eq, negI_eq, ltI_eq, leI_eq, gtI_eq, geI_eq, eqM_eq, neM_eq, inM_eq, notInM_eq, andM_2, orM_2, notM_ss, iteM_ss, lenL_eq, cutM_eq, listM_eq, allM_eq, someM_ss, noneM_eq, revM_eq, consM_eq, minI_eq, maxI_eq, mk2_eq, mk3_eq, mk4_eq, anyM_eq, one1_eq, Bool.not_true, Bool.not_false]
  refine for_fin (fun n ss => (∀ s ∈ ss, SwOk x0 x1 s) ∧ ss.length ≤ n * 432) ⟨(fun s hs => nomatch hs), Nat.zero_le _⟩ ?_ fun s hs => ⟨_, rfl, hs.1, by have := hs.2; simp at this; omega⟩
  rintro n f ss hf' ⟨hs1, hs2⟩
  have hf : f = 0 ∨ f = 1 := by
    have := List.mem_of_getElem? hf'
    simpa using this
  have hfd := fAt_fd hd f
  obtain ⟨d1, d2, d3⟩ := hfd
  rw [atI_f hf]
  unfold enumM
  simp only [c1, c2, c3, c4, c5, cmap, cbind, cnx, crt, cfin, cfinN, cfinR, cfinO, cfinP, cexn, cfinX, cfinXe, cfinXn, cfinXr, cfinXx, addI_eq, subI_eq, negI_eq, ltI_eq, leI_eq, gtI_eq, geI_eq, eqM_eq, neM_eq, inM_eq, notInM_eq, andM_2, orM_2, notM_ss, iteM_ss, lenL_eq, cutM_eq, listM_eq, allM_eq, someM_ss, noneM_eq, revM_eq, consM_eq, minI_eq, maxI_eq, mk2_eq, mk3_eq, mk4_eq, anyM_eq, one1_eq, Bool.not_true, Bool.not_false]
  refine for_nx (fun k (tt : List (P4 Int Int Int Int)) => (∀ s ∈ tt, SwOk x0 x1 s) ∧ tt.length ≤ n * 432 + k * 144) ⟨hs1, by omega⟩ ?_ fun s hs => ⟨_, rfl, hs.1, by have := hs.2; simp only [List.length_map, List.length_zipIdx] at this; omega⟩
  rintro k p tt hp ⟨ht1, ht2⟩
  have hk : ∃ row, p = ⟨(k : Int), row⟩ ∧ k < (fAt x0 x1 f).length ∧ row ∈ fAt x0 x1 f ∧ (fAt x0 x1 f).getD k [] = row := by
    rw [List.getElem?_map] at hp
    obtain ⟨q, hq, rfl⟩ := Option.map_eq_some_iff.mp hp
    rw [List.getElem?_zipIdx] at hq
    obtain ⟨row, hrow, rfl⟩ := Option.map_eq_some_iff.mp hq
    exact ⟨row, by simp, (List.getElem?_eq_some_iff.mp hrow).1, List.mem_of_getElem? hrow, by rw [List.getD_eq_getElem?_getD, hrow]; rfl⟩
  obtain ⟨row, rfl, hk1, hrow, hrow2⟩ := hk
  have hr12 := d3 row hrow
  simp only [c1, c2, c3, c4, c5, cmap, cbind, cnx, crt, cfin, cfinN, cfinR, cfinO, cfinP, cexn, cfinX, cfinXe, cfinXn, cfinXr, cfinXx, addI_eq, subI_eq, negI_eq, ltI_eq, leI_eq, gtI_eq, geI_eq, eqM_eq, neM_eq, inM_eq, notInM_eq, andM_2, orM_2, notM_ss, iteM_ss, lenL_eq, cutM_eq, listM_eq, allM_eq, someM_ss, noneM_eq, revM_eq, consM_eq, minI_eq, maxI_eq, mk2_eq, mk3_eq, mk4_eq, anyM_eq, one1_eq, Bool.not_true, Bool.not_false]
  rw [rngM_ok (by omega) (by omega)]
  simp only [c1, c2, c3, c4, c5, cmap, cbind, cnx, crt, cfin, cfinN, cfinR, cfinO, cfinP, cexn, cfinX, cfinXe, cfinXn, cfinXr, cfinXx, addI_eq, subI_eq, negI_eq, ltI_eq, leI_eq, gtI_eq, geI_eq, eqM_eq, neM_eq, inM_eq, notInM_eq, andM_2, orM_2, notM_ss, iteM_ss, lenL_eq, cutM_eq, listM_eq, allM_eq, someM_ss, noneM_eq, revM_eq, consM_eq, minI_eq, maxI_eq, mk2_eq, mk3_eq, mk4_eq, anyM_eq, one1_eq, Bool.not_true, Bool.not_false]
  refine for_nx (fun i (uu : List (P4 Int Int Int Int)) => (∀ s ∈ uu, SwOk x0 x1 s) ∧ uu.length ≤ n * 432 + k * 144 + i * 12) ⟨ht1, by omega⟩ ?_ fun s hs => ⟨_, rfl, hs.1, by have := hs.2; simp only [List.length_map, List.length_range] at this; omega⟩
  rintro i x uu hx ⟨hu1, hu2⟩
  have hi : i < row.length := by have := (List.getElem?_eq_some_iff.mp hx).1; simpa using this
  have ex : x = (i : Int) := by have := (List.getElem?_eq_some_iff.mp hx).2; rw [← this]; simp
  subst ex
  have hn2 : n < 2 := by have := (List.getElem?_eq_some_iff.mp hf').1; simpa using this
  rw [rng2M_ok (by omega) (by omega) (by omega) (by omega)]
  simp only [c1, c2, c3, c4, c5, cmap, cbind, cnx, crt, cfin, cfinN, cfinR, cfinO, cfinP, cexn, cfinX, cfinXe, cfinXn, cfinXr, cfinXx, addI_eq, subI_eq, negI_eq, ltI_eq, leI_eq, gtI_eq, geI_eq, eqM_eq, neM_eq, inM_eq, notInM_eq, andM_2, orM_2, notM_ss, iteM_ss, lenL_eq, cutM_eq, listM_eq, allM_eq, someM_ss, noneM_eq, revM_eq, consM_eq, minI_eq, maxI_eq, mk2_eq, mk3_eq, mk4_eq, anyM_eq, one1_eq, Bool.not_true, Bool.not_false]
  rw [lc_map (fun l : Int => (⟨f, (k : Int), (i : Int), l⟩ : P4 Int Int Int Int)) (by simp; omega) fun l _ => rfl]
  simp only [c1, c2, c3, c4, c5, cmap, cbind, cnx, crt, cfin, cfinN, cfinR, cfinO, cfinP, cexn, cfinX, cfinXe, cfinXn, cfinXr, cfinXx, addI_eq, subI_eq, negI_eq, ltI_eq, leI_eq, gtI_eq, geI_eq, eqM_eq, neM_eq, inM_eq, notInM_eq, andM_2, orM_2, notM_ss, iteM_ss, lenL_eq, cutM_eq, listM_eq, allM_eq, someM_ss, noneM_eq, revM_eq, consM_eq, minI_eq, maxI_eq, mk2_eq, mk3_eq, mk4_eq, anyM_eq, one1_eq, Bool.not_true, Bool.not_false]
  rw [catM_ok (by simp only [List.length_map, List.length_range]; omega)]
  simp only [c1, c2, c3, c4, c5, cmap, cbind, cnx, crt, cfin, cfinN, cfinR, cfinO, cfinP, cexn, cfinX, cfinXe, cfinXn, cfinXr, cfinXx, addI_eq, subI_eq, negI_eq, ltI_eq, leI_eq, gtI_eq, geI_eq, eqM_eq, neM_eq, inM_eq, notInM_eq, andM_2, orM_2, notM_ss, iteM_ss, lenL_eq, cutM_eq, listM_eq, allM_eq, someM_ss, noneM_eq, revM_eq, consM_eq, minI_eq, maxI_eq, mk2_eq, mk3_eq, mk4_eq, anyM_eq, one1_eq, Bool.not_true, Bool.not_false]
  refine ⟨_, rfl, fun s hs => ?_, by simp only [List.length_append, List.length_map, List.length_range]; omega⟩
  rcases List.mem_append.mp hs with h | h
  · exact hu1 s h
  · obtain ⟨l, hl, rfl⟩ := List.mem_map.mp h
    obtain ⟨l2, hl2, rfl⟩ := List.mem_map.mp hl
    have hl3 := List.mem_range.mp hl2
    refine ⟨hf, by dsimp only; omega, by dsimp only; omega, by dsimp only; omega, by dsimp only; omega, ?_⟩
    dsimp only
    rw [show ((k : Int)).toNat = k from rfl, hrow2]
    omega
end Kj

set_option Elab.async false
set_option linter.all false
set_option maxRecDepth 100000
set_option maxHeartbeats 4000000
/-! KjMn: covers. -/
namespace Kj
open PySem L2
def enumL (rs : List (List Int)) : List (P2 Int (List Int)) := rs.zipIdx.map fun p => ⟨(p.2 : Int), p.1⟩
/-- where some of the cards lie in a row -/
def pl (us cards : List Int) : List Int := ((List.range cards.length).map fun k : Nat => (k : Int)).filter fun i => decide (cards.getD i.toNat 0 ∈ us)
def rsw (us : List Int) (f : Int) (q : P2 Int (List Int)) : List (P4 Int Int Int Int) := if pl us q.b = [] then [] else [⟨f, q.a, (pl us q.b).getD 0 0, (pl us q.b).getD ((pl us q.b).length - 1) 0⟩]
def cvf (us : List Int) (f : Int) (rs : List (List Int)) : List (P4 Int Int Int Int) := (enumL rs).flatMap (rsw us f)
def cov (us : List Int) (x0 x1 : List (List Int)) : List (P4 Int Int Int Int) := cvf us 0 x0 ++ cvf us 1 x1
theorem mem_enumL {rs : List (List Int)} {q : P2 Int (List Int)} : q ∈ enumL rs ↔ ∃ k : Nat, q.a = (k : Int) ∧ rs[k]? = some q.b := by
  unfold enumL
  rw [List.mem_map]
  constructor
  · rintro ⟨⟨r, k⟩, hp, rfl⟩
    exact ⟨k, rfl, by simpa using List.mem_zipIdx_iff_getElem?.mp hp⟩
  · rintro ⟨k, e1, e2⟩
    exact ⟨(q.b, k), List.mem_zipIdx_iff_getElem?.mpr e2, by obtain ⟨a, b⟩ := q; dsimp only at e1 ⊢; rw [e1]⟩
theorem Fd.cards {rs : List (List Int)} (h : Fd rs) {q : P2 Int (List Int)} (hq : q ∈ enumL rs) : q.b.length ≤ 12 := by
  obtain ⟨k, _, e⟩ := mem_enumL.mp hq
  exact h.2.2 _ (List.mem_of_getElem? e)
/-- a sweep of a cover -/
structure CvOk (us : List Int) (x0 x1 : List (List Int)) (s : P4 Int Int Int Int) : Prop where
  ok : SwOk x0 x1 s
  ne : pl us ((fAt x0 x1 s.a).getD s.b.toNat []) ≠ []
  c : s.c = (pl us ((fAt x0 x1 s.a).getD s.b.toNat [])).getD 0 0
  d : s.d = (pl us ((fAt x0 x1 s.a).getD s.b.toNat [])).getD ((pl us ((fAt x0 x1 s.a).getD s.b.toNat [])).length - 1) 0
theorem swp_eq {x0 x1 : List (List Int)} {s : P4 Int Int Int Int} (h : SwOk x0 x1 s) : swp x0 x1 s = (((fAt x0 x1 s.a).getD s.b.toNat []).drop s.c.toNat).take (s.d + 1 - s.c).toNat := by
  obtain ⟨_, _, _, h2, h3, h4⟩ := h
  unfold swp cutD
  generalize (fAt x0 x1 s.a).getD s.b.toNat [] = row at h4
  have e1 : HT.sIx row.length 0 (some s.c) = s.c.toNat := by
    show (if s.c < 0 then (s.c + (row.length : Int)).toNat else min s.c.toNat row.length) = _
    rw [if_neg (by omega)]; omega
  have e2 : HT.sIx row.length row.length (some (s.d + 1)) = (s.d + 1).toNat := by
    show (if s.d + 1 < 0 then (s.d + 1 + (row.length : Int)).toNat else min (s.d + 1).toNat row.length) = _
    rw [if_neg (by omega)]; omega
  rw [e1, e2]
  congr 1
  omega
theorem swp_len {x0 x1 : List (List Int)} {m : Nat} (hd : DOk m x0 x1) {s : P4 Int Int Int Int} (h : SwOk x0 x1 s) : (swp x0 x1 s).length ≤ 12 := by
  have hr := (fAt_fd hd s.a).2.2 ((fAt x0 x1 s.a).getD s.b.toNat []) (getD_mem (by have := h.2.1; have := h.2.2.1; omega))
  rw [swp_eq h, List.length_take, List.length_drop]
  omega
end Kj

set_option Elab.async false
set_option linter.all false
set_option maxRecDepth 100000
set_option maxHeartbeats 4000000
/-! KjMq: what is raised of books and deals. -/
namespace Kj
open PySem L2
instance {b : BL} {n : Int} : Decidable (InB b n) := by unfold InB; infer_instance
section
variable {α β S R : Type} {x : α} {e : Exn}
theorem xbO {k : α → Option (Fl S R)} : bX k (some (.ok x)) = k x := Eq.trans rfl rfl
theorem xbE {k : α → Option (Fl S R)} : bX k (some (.ex e)) = some (.ex e) := Eq.trans rfl rfl
theorem xrO {g : Option α → Option β} : rsM g (some (.ok x)) = (g (some x)).map .ok := Eq.trans rfl rfl
theorem xrE {g : Option α → Option β} : rsM g (some (.ex e)) = some (.ex e) := Eq.trans rfl rfl
theorem xnO {b : Bool} : rsN (some (.ok b)) = some (.ok (!b)) := Eq.trans rfl rfl
theorem xnE : rsN (some (.ex e)) = some (.ex e) := Eq.trans rfl rfl
theorem xch {g g' : Int → Int → Bool} {i j : Int} {mc : Option (Rs Int)} : chXM g g' (some i) (some j) mc = if g i j = true then mc.map (fun r => match r with | .ok k => .ok (g' j k) | .ex e => .ex e) else some (.ok false) := Eq.trans rfl rfl
theorem finF_X {m : Option (Fl S R)} {c : R} (h : finF m = some c) : finX m = some (.ok c) := by
  obtain ⟨fl, h1, h2⟩ := Option.bind_eq_some_iff.mp h
  subst h1
  cases fl with
  | nx s => cases h2
  | rt r => cases h2; rfl
  | ex e => cases h2
end
theorem dec_ff {p q : Prop} [Decidable p] [Decidable q] (h : ¬(p ∧ q)) : (decide p && decide q) = false := by
  rw [← Bool.not_eq_true, Bool.and_eq_true, decide_eq_true_iff, decide_eq_true_iff]; exact h
/-! ### deals -/
theorem cfx_ok {f : Int} (h : f = 0 ∨ f = 1) : f_check_field_x f = some (.ok ()) := by
  unfold f_check_field_x
  rw [chM_i (leI_eq) (leI_eq), decide_eq_true (by omega), decide_eq_true (by omega)]
  rfl
theorem cfx_no {f : Int} (h : ¬(f = 0 ∨ f = 1)) : f_check_field_x f = some (.ex ⟨"NoField", []⟩) := by
  unfold f_check_field_x
  rw [chM_i (leI_eq) (leI_eq), dec_ff (by omega)]
  rfl
theorem rows_x_ok {b : BookT} {m : Nat} {x0 x1 : List (List Int)} (hd : DOk m x0 x1) {f : Int} (h : f = 0 ∨ f = 1) : f_Deal_rows_x ⟨b, [x0, x1]⟩ f = some (.ok (fAt x0 x1 f)) := by
  unfold f_Deal_rows_x
  simp only [c1, c2, c3, c4, c5, cmap, cbind, cnx, crt, cfin, cfinN, cfinR, cfinO, cfinP, cexn, cfinX, cfinXe, cfinXn, cfinXr, cfinXx, addI_eq, subI_eq, negI_eq, ltI_eq, leI_eq, gtI_eq, geI_eq, eqM_eq, neM_eq, inM_eq, notInM_eq, andM_2, orM_2, notM_ss, iteM_ss, lenL_eq, cutM_eq, listM_eq, allM_eq, someM_ss, noneM_eq, revM_eq, consM_eq, minI_eq, maxI_eq, mk2_eq, mk3_eq, mk4_eq, anyM_eq, one1_eq, Bool.not_true, Bool.not_false, cfx_ok h, xbO]
  rw [atI_f h]
  simp only [c1, c2, c3, c4, c5, cmap, cbind, cnx, crt, cfin, cfinN, cfinR, cfinO, cfinP, cexn, cfinX, cfinXe, cfinXn, cfinXr, cfinXx, addI_eq, subI_eq, negI_eq, ltI_eq, leI_eq, gtI_eq, geI_eq, eqM_eq, neM_eq, inM_eq, notInM_eq, andM_2, orM_2, notM_ss, iteM_ss, lenL_eq, cutM_eq, listM_eq, allM_eq, someM_ss, noneM_eq, revM_eq, consM_eq, minI_eq, maxI_eq, mk2_eq, mk3_eq, mk4_eq, anyM_eq, one1_eq, Bool.not_true, Bool.not_false]
  rw [copied_eq (by have := (fAt_fd hd f).2.1; omega)]
  rfl
theorem rows_x_no {D : DealT} {f : Int} (h : ¬(f = 0 ∨ f = 1)) : f_Deal_rows_x D f = some (.ex ⟨"NoField", []⟩) := by
  unfold f_Deal_rows_x
  simp only [c1, c2, c3, c4, c5, cmap, cbind, cnx, crt, cfin, cfinN, cfinR, cfinO, cfinP, cexn, cfinX, cfinXe, cfinXn, cfinXr, cfinXx, addI_eq, subI_eq, negI_eq, ltI_eq, leI_eq, gtI_eq, geI_eq, eqM_eq, neM_eq, inM_eq, notInM_eq, andM_2, orM_2, notM_ss, iteM_ss, lenL_eq, cutM_eq, listM_eq, allM_eq, someM_ss, noneM_eq, revM_eq, consM_eq, minI_eq, maxI_eq, mk2_eq, mk3_eq, mk4_eq, anyM_eq, one1_eq, Bool.not_true, Bool.not_false, cfx_no h, xbE]
def RwOk (x0 x1 : List (List Int)) (f r : Int) : Prop := (f = 0 ∨ f = 1) ∧ 0 ≤ r ∧ r < (fAt x0 x1 f).length
instance {x0 x1 : List (List Int)} {f r : Int} : Decidable (RwOk x0 x1 f r) := by unfold RwOk; infer_instance
instance {x0 x1 : List (List Int)} {s : P4 Int Int Int Int} : Decidable (SwOk x0 x1 s) := by unfold SwOk; infer_instance
theorem crx_ok {b : BookT} {m : Nat} {x0 x1 : List (List Int)} (hd : DOk m x0 x1) {f r : Int} (h : RwOk x0 x1 f r) : f_check_row_x ⟨b, [x0, x1]⟩ f r = some (.ok ()) := by
  unfold f_check_row_x
  rw [xch, if_pos (by simpa using h.2.1), c2, rows_x_ok hd h.1, xrO, c1, lenL_eq]
  have : decide (r < ((fAt x0 x1 f).length : Int)) = true := decide_eq_true h.2.2
  simp only [cmap, this, xnO, xbO, c1, c2, c3, c4, c5, cmap, cbind, cnx, crt, cfin, cfinN, cfinR, cfinO, cfinP, cexn, cfinX, cfinXe, cfinXn, cfinXr, cfinXx, addI_eq, subI_eq, negI_eq, ltI_eq, leI_eq, gtI_eq, geI_eq, eqM_eq, neM_eq, inM_eq, notInM_eq, andM_2, orM_2, notM_ss, iteM_ss, lenL_eq, cutM_eq, listM_eq, allM_eq, someM_ss, noneM_eq, revM_eq, consM_eq, minI_eq, maxI_eq, mk2_eq, mk3_eq, mk4_eq, anyM_eq, one1_eq, Bool.not_true, Bool.not_false, Bool.false_eq_true, if_false]
theorem crx_no {b : BookT} {m : Nat} {x0 x1 : List (List Int)} (hd : DOk m x0 x1) {f r : Int} (h : ¬RwOk x0 x1 f r) : f_check_row_x ⟨b, [x0, x1]⟩ f r = some (.ex ⟨"NoField", []⟩) := by
  unfold f_check_row_x
  by_cases h0 : 0 ≤ r
  · rw [xch, if_pos (by simpa using h0), c2]
    by_cases hf : f = 0 ∨ f = 1
    · rw [rows_x_ok hd hf, xrO, c1, lenL_eq]
      have : decide (r < ((fAt x0 x1 f).length : Int)) = false := decide_eq_false fun z => h ⟨hf, h0, z⟩
      simp only [cmap, this, xnO, xbO, c1, c2, c3, c4, c5, cmap, cbind, cnx, crt, cfin, cfinN, cfinR, cfinO, cfinP, cexn, cfinX, cfinXe, cfinXn, cfinXr, cfinXx, addI_eq, subI_eq, negI_eq, ltI_eq, leI_eq, gtI_eq, geI_eq, eqM_eq, neM_eq, inM_eq, notInM_eq, andM_2, orM_2, notM_ss, iteM_ss, lenL_eq, cutM_eq, listM_eq, allM_eq, someM_ss, noneM_eq, revM_eq, consM_eq, minI_eq, maxI_eq, mk2_eq, mk3_eq, mk4_eq, anyM_eq, one1_eq, Bool.not_true, Bool.not_false, if_true]
    · rw [rows_x_no hf, xrE]
      simp only [cmap, xnE, xbE, c1, c2, c3, c4, c5, cmap, cbind, cnx, crt, cfin, cfinN, cfinR, cfinO, cfinP, cexn, cfinX, cfinXe, cfinXn, cfinXr, cfinXx, addI_eq, subI_eq, negI_eq, ltI_eq, leI_eq, gtI_eq, geI_eq, eqM_eq, neM_eq, inM_eq, notInM_eq, andM_2, orM_2, notM_ss, iteM_ss, lenL_eq, cutM_eq, listM_eq, allM_eq, someM_ss, noneM_eq, revM_eq, consM_eq, minI_eq, maxI_eq, mk2_eq, mk3_eq, mk4_eq, anyM_eq, one1_eq, Bool.not_true, Bool.not_false]
  · rw [xch, if_neg (by simpa using h0)]
    simp only [xnO, xbO, c1, c2, c3, c4, c5, cmap, cbind, cnx, crt, cfin, cfinN, cfinR, cfinO, cfinP, cexn, cfinX, cfinXe, cfinXn, cfinXr, cfinXx, addI_eq, subI_eq, negI_eq, ltI_eq, leI_eq, gtI_eq, geI_eq, eqM_eq, neM_eq, inM_eq, notInM_eq, andM_2, orM_2, notM_ss, iteM_ss, lenL_eq, cutM_eq, listM_eq, allM_eq, someM_ss, noneM_eq, revM_eq, consM_eq, minI_eq, maxI_eq, mk2_eq, mk3_eq, mk4_eq, anyM_eq, one1_eq, Bool.not_true, Bool.not_false, if_true]
theorem SwOk.row {x0 x1 : List (List Int)} {s : P4 Int Int Int Int} (h : SwOk x0 x1 s) : RwOk x0 x1 s.a s.b := ⟨h.1, h.2.1, h.2.2.1⟩
theorem csx_ok {b : BookT} {m : Nat} {x0 x1 : List (List Int)} (hd : DOk m x0 x1) {s : P4 Int Int Int Int} (h : SwOk x0 x1 s) : f_check_sweep_x ⟨b, [x0, x1]⟩ s = some (.ok ()) := by
  unfold f_check_sweep_x
  simp only [c1, c2, c3, c4, c5, cmap, cbind, cnx, crt, cfin, cfinN, cfinR, cfinO, cfinP, cexn, cfinX, cfinXe, cfinXn, cfinXr, cfinXx, addI_eq, subI_eq, negI_eq, ltI_eq, leI_eq, gtI_eq, geI_eq, eqM_eq, neM_eq, inM_eq, notInM_eq, andM_2, orM_2, notM_ss, iteM_ss, lenL_eq, cutM_eq, listM_eq, allM_eq, someM_ss, noneM_eq, revM_eq, consM_eq, minI_eq, maxI_eq, mk2_eq, mk3_eq, mk4_eq, anyM_eq, one1_eq, Bool.not_true, Bool.not_false, crx_ok (b := b) hd h.row, xbO, rows_ok hd h.1]
  rw [atI_ok (z := []) h.2.1 h.2.2.1]
  simp only [c1, c2, c3, c4, c5, cmap, cbind, cnx, crt, cfin, cfinN, cfinR, cfinO, cfinP, cexn, cfinX, cfinXe, cfinXn, cfinXr, cfinXx, addI_eq, subI_eq, negI_eq, ltI_eq, leI_eq, gtI_eq, geI_eq, eqM_eq, neM_eq, inM_eq, notInM_eq, andM_2, orM_2, notM_ss, iteM_ss, lenL_eq, cutM_eq, listM_eq, allM_eq, someM_ss, noneM_eq, revM_eq, consM_eq, minI_eq, maxI_eq, mk2_eq, mk3_eq, mk4_eq, anyM_eq, one1_eq, Bool.not_true, Bool.not_false]
  rw [chM3_i leI_eq leI_eq ltI_eq, decide_eq_true h.2.2.2.1, decide_eq_true h.2.2.2.2.1, decide_eq_true h.2.2.2.2.2]
  rfl
theorem csx_f {b : BookT} {m : Nat} {x0 x1 : List (List Int)} (hd : DOk m x0 x1) {s : P4 Int Int Int Int} (h : ¬RwOk x0 x1 s.a s.b) : f_check_sweep_x ⟨b, [x0, x1]⟩ s = some (.ex ⟨"NoField", []⟩) := by
  unfold f_check_sweep_x
  simp only [c1, c2, c3, c4, c5, cmap, cbind, cnx, crt, cfin, cfinN, cfinR, cfinO, cfinP, cexn, cfinX, cfinXe, cfinXn, cfinXr, cfinXx, addI_eq, subI_eq, negI_eq, ltI_eq, leI_eq, gtI_eq, geI_eq, eqM_eq, neM_eq, inM_eq, notInM_eq, andM_2, orM_2, notM_ss, iteM_ss, lenL_eq, cutM_eq, listM_eq, allM_eq, someM_ss, noneM_eq, revM_eq, consM_eq, minI_eq, maxI_eq, mk2_eq, mk3_eq, mk4_eq, anyM_eq, one1_eq, Bool.not_true, Bool.not_false, crx_no (b := b) hd h, xbE]
theorem csx_c {b : BookT} {m : Nat} {x0 x1 : List (List Int)} (hd : DOk m x0 x1) {s : P4 Int Int Int Int} (h : RwOk x0 x1 s.a s.b) (hs : ¬SwOk x0 x1 s) : f_check_sweep_x ⟨b, [x0, x1]⟩ s = some (.ex ⟨"NoCard", []⟩) := by
  unfold f_check_sweep_x
  simp only [c1, c2, c3, c4, c5, cmap, cbind, cnx, crt, cfin, cfinN, cfinR, cfinO, cfinP, cexn, cfinX, cfinXe, cfinXn, cfinXr, cfinXx, addI_eq, subI_eq, negI_eq, ltI_eq, leI_eq, gtI_eq, geI_eq, eqM_eq, neM_eq, inM_eq, notInM_eq, andM_2, orM_2, notM_ss, iteM_ss, lenL_eq, cutM_eq, listM_eq, allM_eq, someM_ss, noneM_eq, revM_eq, consM_eq, minI_eq, maxI_eq, mk2_eq, mk3_eq, mk4_eq, anyM_eq, one1_eq, Bool.not_true, Bool.not_false, crx_ok (b := b) hd h, xbO, rows_ok hd h.1]
  rw [atI_ok (z := []) h.2.1 h.2.2]
  simp only [c1, c2, c3, c4, c5, cmap, cbind, cnx, crt, cfin, cfinN, cfinR, cfinO, cfinP, cexn, cfinX, cfinXe, cfinXn, cfinXr, cfinXx, addI_eq, subI_eq, negI_eq, ltI_eq, leI_eq, gtI_eq, geI_eq, eqM_eq, neM_eq, inM_eq, notInM_eq, andM_2, orM_2, notM_ss, iteM_ss, lenL_eq, cutM_eq, listM_eq, allM_eq, someM_ss, noneM_eq, revM_eq, consM_eq, minI_eq, maxI_eq, mk2_eq, mk3_eq, mk4_eq, anyM_eq, one1_eq, Bool.not_true, Bool.not_false]
  rw [chM3_i leI_eq leI_eq ltI_eq]
  have e : (decide (0 ≤ s.c) && decide (s.c ≤ s.d) && decide (s.d < (((fAt x0 x1 s.a).getD s.b.toNat []).length : Int))) = false := by
    rw [← Bool.not_eq_true, Bool.and_eq_true, Bool.and_eq_true, decide_eq_true_iff, decide_eq_true_iff, decide_eq_true_iff]
    exact fun z => hs ⟨h.1, h.2.1, h.2.2, z.1.1, z.1.2, z.2⟩
  rw [e]
  rfl
/-- why a sweep is not there -/
def swB (x0 x1 : List (List Int)) (s : P4 Int Int Int Int) : Str := if RwOk x0 x1 s.a s.b then (if SwOk x0 x1 s then "" else "NoCard") else "NoField"
theorem sweep_bad_eq {x0 x1 : List (List Int)} (s : P4 Int Int Int Int) : f_law_sweep_bad [x0, x1] s = some (swB x0 x1 s) := by
  unfold f_law_sweep_bad swB
  simp only [c1, c2, c3, c4, c5, cmap, cbind, cnx, crt, cfin, cfinN, cfinR, cfinO, cfinP, cexn, cfinX, cfinXe, cfinXn, cfinXr, cfinXx, addI_eq, subI_eq, negI_eq, ltI_eq, leI_eq, gtI_eq, geI_eq, eqM_eq, neM_eq, inM_eq, notInM_eq, andM_2, orM_2, notM_ss, iteM_ss, lenL_eq, cutM_eq, listM_eq, allM_eq, someM_ss, noneM_eq, revM_eq, consM_eq, minI_eq, maxI_eq, mk2_eq, mk3_eq, mk4_eq, anyM_eq, one1_eq, Bool.not_true, Bool.not_false]
  by_cases hr : RwOk x0 x1 s.a s.b
  · have hf := hr.1
    rw [if_pos hr, chM_i leI_eq leI_eq, decide_eq_true (show 0 ≤ s.a by omega), decide_eq_true (show s.a ≤ 1 by omega), atI_f hf]
    simp only [c1, c2, c3, c4, c5, cmap, cbind, cnx, crt, cfin, cfinN, cfinR, cfinO, cfinP, cexn, cfinX, cfinXe, cfinXn, cfinXr, cfinXx, addI_eq, subI_eq, negI_eq, ltI_eq, leI_eq, gtI_eq, geI_eq, eqM_eq, neM_eq, inM_eq, notInM_eq, andM_2, orM_2, notM_ss, iteM_ss, lenL_eq, cutM_eq, listM_eq, allM_eq, someM_ss, noneM_eq, revM_eq, consM_eq, minI_eq, maxI_eq, mk2_eq, mk3_eq, mk4_eq, anyM_eq, one1_eq, Bool.not_true, Bool.not_false, Bool.and_self, Bool.not_true]
    rw [chM_i leI_eq ltI_eq, decide_eq_true hr.2.1, decide_eq_true hr.2.2]
    simp only [c1, c2, c3, c4, c5, cmap, cbind, cnx, crt, cfin, cfinN, cfinR, cfinO, cfinP, cexn, cfinX, cfinXe, cfinXn, cfinXr, cfinXx, addI_eq, subI_eq, negI_eq, ltI_eq, leI_eq, gtI_eq, geI_eq, eqM_eq, neM_eq, inM_eq, notInM_eq, andM_2, orM_2, notM_ss, iteM_ss, lenL_eq, cutM_eq, listM_eq, allM_eq, someM_ss, noneM_eq, revM_eq, consM_eq, minI_eq, maxI_eq, mk2_eq, mk3_eq, mk4_eq, anyM_eq, one1_eq, Bool.not_true, Bool.not_false, Bool.and_self, Bool.not_true, Bool.or_self, Bool.false_eq_true, if_false]
    rw [atI_ok (z := []) hr.2.1 hr.2.2]
    simp only [c1, c2, c3, c4, c5, cmap, cbind, cnx, crt, cfin, cfinN, cfinR, cfinO, cfinP, cexn, cfinX, cfinXe, cfinXn, cfinXr, cfinXx, addI_eq, subI_eq, negI_eq, ltI_eq, leI_eq, gtI_eq, geI_eq, eqM_eq, neM_eq, inM_eq, notInM_eq, andM_2, orM_2, notM_ss, iteM_ss, lenL_eq, cutM_eq, listM_eq, allM_eq, someM_ss, noneM_eq, revM_eq, consM_eq, minI_eq, maxI_eq, mk2_eq, mk3_eq, mk4_eq, anyM_eq, one1_eq, Bool.not_true, Bool.not_false]
    rw [chM3_i leI_eq leI_eq ltI_eq]
    by_cases h1 : 0 ≤ s.c ∧ s.c ≤ s.d ∧ s.d < ((fAt x0 x1 s.a).getD s.b.toNat []).length
    · rw [if_pos (show SwOk x0 x1 s from ⟨hf, hr.2.1, hr.2.2, h1.1, h1.2.1, h1.2.2⟩), decide_eq_true h1.1, decide_eq_true h1.2.1, decide_eq_true h1.2.2]
      rfl
    · have e : (decide (0 ≤ s.c) && decide (s.c ≤ s.d) && decide (s.d < (((fAt x0 x1 s.a).getD s.b.toNat []).length : Int))) = false := by
        rw [← Bool.not_eq_true, Bool.and_eq_true, Bool.and_eq_true, decide_eq_true_iff, decide_eq_true_iff, decide_eq_true_iff]
        exact fun z => h1 ⟨z.1.1, z.1.2, z.2⟩
      rw [if_neg (fun z : SwOk x0 x1 s => h1 z.2.2.2), e]
      rfl
  · rw [if_neg hr]
    by_cases hf : s.a = 0 ∨ s.a = 1
    · rw [chM_i leI_eq leI_eq, decide_eq_true (show 0 ≤ s.a by omega), decide_eq_true (show s.a ≤ 1 by omega), atI_f hf]
      simp only [c1, c2, c3, c4, c5, cmap, cbind, cnx, crt, cfin, cfinN, cfinR, cfinO, cfinP, cexn, cfinX, cfinXe, cfinXn, cfinXr, cfinXx, addI_eq, subI_eq, negI_eq, ltI_eq, leI_eq, gtI_eq, geI_eq, eqM_eq, neM_eq, inM_eq, notInM_eq, andM_2, orM_2, notM_ss, iteM_ss, lenL_eq, cutM_eq, listM_eq, allM_eq, someM_ss, noneM_eq, revM_eq, consM_eq, minI_eq, maxI_eq, mk2_eq, mk3_eq, mk4_eq, anyM_eq, one1_eq, Bool.not_true, Bool.not_false, Bool.and_self, Bool.not_true]
      rw [chM_i leI_eq ltI_eq, dec_ff fun z => hr ⟨hf, z⟩]
      rfl
    · rw [chM_i leI_eq leI_eq, dec_ff (by omega)]
      simp only [c1, c2, c3, c4, c5, cmap, cbind, cnx, crt, cfin, cfinN, cfinR, cfinO, cfinP, cexn, cfinX, cfinXe, cfinXn, cfinXr, cfinXx, addI_eq, subI_eq, negI_eq, ltI_eq, leI_eq, gtI_eq, geI_eq, eqM_eq, neM_eq, inM_eq, notInM_eq, andM_2, orM_2, notM_ss, iteM_ss, lenL_eq, cutM_eq, listM_eq, allM_eq, someM_ss, noneM_eq, revM_eq, consM_eq, minI_eq, maxI_eq, mk2_eq, mk3_eq, mk4_eq, anyM_eq, one1_eq, Bool.not_true, Bool.not_false]
      unfold orM
      rfl
/-! ### what laws draw -/
theorem powI_20 : powI 10 20 = some 100000000000000000000 := by unfold powI; rfl
theorem wild_ok {m : Nat} {x0 x1 : List (List Int)} (hd : DOk m x0 x1) {d : List Int} {k : Nat} (h : Nm k d) (hk : 4 ≤ k) : ∃ s, f_law_wild [x0, x1] d = some s := by
  obtain ⟨ss, e1, hs, hl⟩ := law_sweeps_ok hd
  have fin : ∀ w : List Int, w.length = 4 → ∃ s, finF (S := Unit) (b1 (fun r => some (Fl.rt r)) (b4 mk4 (atI w 0) (atI w 1) (atI w 2) (atI w 3))) = some s := by
    intro w hw
    rw [atI_ok (z := 0) (by omega) (by omega), atI_ok (z := 0) (by omega) (by omega), atI_ok (z := 0) (by omega) (by omega), atI_ok (z := 0) (by omega) (by omega)]
    exact ⟨_, rfl⟩
  unfold f_law_wild
  simp only [c1, c2, c3, c4, c5, cmap, cbind, cnx, crt, cfin, cfinN, cfinR, cfinO, cfinP, cexn, cfinX, cfinXe, cfinXn, cfinXr, cfinXx, addI_eq, subI_eq, negI_eq, ltI_eq, leI_eq, gtI_eq, geI_eq, eqM_eq, neM_eq, inM_eq, notInM_eq, andM_2, orM_2, notM_ss, iteM_ss, lenL_eq, cutM_eq, listM_eq, allM_eq, someM_ss, noneM_eq, revM_eq, consM_eq, minI_eq, maxI_eq, mk2_eq, mk3_eq, mk4_eq, anyM_eq, one1_eq, Bool.not_true, Bool.not_false, e1, powI_20, atI_nm h (show (0 : Int) ≤ 0 by omega) (by omega), atI_nm h (show (0 : Int) ≤ 1 by omega) (by omega), atI_nm h (show (0 : Int) ≤ 2 by omega) (by omega), atI_nm h (show (0 : Int) ≤ 3 by omega) (by omega), modI_pos (show (0 : Int) < 2 by omega), modI_pos (show (0 : Int) < 3 by omega), modI_pos (show (0 : Int) < 4 by omega), modI_pos (show (0 : Int) < 6 by omega), modI_pos (show (0 : Int) < 13 by omega), divI_pos (show (0 : Int) < 2 by omega) (by omega), divI_pos (show (0 : Int) < 6 by omega) (by omega)]
  rw [shortM_ok (by simp), shortM_ok (by simp)]
  simp only [c1, c2, c3, c4, c5, cmap, cbind, cnx, crt, cfin, cfinN, cfinR, cfinO, cfinP, cexn, cfinX, cfinXe, cfinXn, cfinXr, cfinXx, addI_eq, subI_eq, negI_eq, ltI_eq, leI_eq, gtI_eq, geI_eq, eqM_eq, neM_eq, inM_eq, notInM_eq, andM_2, orM_2, notM_ss, iteM_ss, lenL_eq, cutM_eq, listM_eq, allM_eq, someM_ss, noneM_eq, revM_eq, consM_eq, minI_eq, maxI_eq, mk2_eq, mk3_eq, mk4_eq, anyM_eq, one1_eq, Bool.not_true, Bool.not_false]
  split
  · rename_i hc
    rw [Bool.and_eq_true, Bool.not_eq_true', decide_eq_false_iff_not] at hc
    have hu : 0 < ss.length := List.length_pos_iff.mpr hc.1
    rw [modI_pos (by omega)]
    simp only [c1, c2, c3, c4, c5, cmap, cbind, cnx, crt, cfin, cfinN, cfinR, cfinO, cfinP, cexn, cfinX, cfinXe, cfinXn, cfinXr, cfinXx, addI_eq, subI_eq, negI_eq, ltI_eq, leI_eq, gtI_eq, geI_eq, eqM_eq, neM_eq, inM_eq, notInM_eq, andM_2, orM_2, notM_ss, iteM_ss, lenL_eq, cutM_eq, listM_eq, allM_eq, someM_ss, noneM_eq, revM_eq, consM_eq, minI_eq, maxI_eq, mk2_eq, mk3_eq, mk4_eq, anyM_eq, one1_eq, Bool.not_true, Bool.not_false]
    rw [atI_ok (z := ⟨0, 0, 0, 0⟩) (Int.emod_nonneg _ (by omega)) (Int.emod_lt_of_pos _ (by omega))]
    simp only [c1, c2, c3, c4, c5, cmap, cbind, cnx, crt, cfin, cfinN, cfinR, cfinO, cfinP, cexn, cfinX, cfinXe, cfinXn, cfinXr, cfinXx, addI_eq, subI_eq, negI_eq, ltI_eq, leI_eq, gtI_eq, geI_eq, eqM_eq, neM_eq, inM_eq, notInM_eq, andM_2, orM_2, notM_ss, iteM_ss, lenL_eq, cutM_eq, listM_eq, allM_eq, someM_ss, noneM_eq, revM_eq, consM_eq, minI_eq, maxI_eq, mk2_eq, mk3_eq, mk4_eq, anyM_eq, one1_eq, Bool.not_true, Bool.not_false]
    generalize ss.getD (gI d (Int.toNat 1) % (ss.length : Int)).toNat ⟨0, 0, 0, 0⟩ = s
    unfold listP4
    simp only [c1, c2, c3, c4, c5, cmap, cbind, cnx, crt, cfin, cfinN, cfinR, cfinO, cfinP, cexn, cfinX, cfinXe, cfinXn, cfinXr, cfinXx, addI_eq, subI_eq, negI_eq, ltI_eq, leI_eq, gtI_eq, geI_eq, eqM_eq, neM_eq, inM_eq, notInM_eq, andM_2, orM_2, notM_ss, iteM_ss, lenL_eq, cutM_eq, listM_eq, allM_eq, someM_ss, noneM_eq, revM_eq, consM_eq, minI_eq, maxI_eq, mk2_eq, mk3_eq, mk4_eq, anyM_eq, one1_eq, Bool.not_true, Bool.not_false]
    split
    · have z0 := Int.emod_nonneg (gI d (Int.toNat 2)) (show (4 : Int) ≠ 0 by omega)
      have z1 := Int.emod_lt_of_pos (gI d (Int.toNat 2)) (show (0 : Int) < 4 by omega)
      rw [atI_ok (z := 0) z0 (by simpa using z1)]
      simp only [c1, c2, c3, c4, c5, cmap, cbind, cnx, crt, cfin, cfinN, cfinR, cfinO, cfinP, cexn, cfinX, cfinXe, cfinXn, cfinXr, cfinXx, addI_eq, subI_eq, negI_eq, ltI_eq, leI_eq, gtI_eq, geI_eq, eqM_eq, neM_eq, inM_eq, notInM_eq, andM_2, orM_2, notM_ss, iteM_ss, lenL_eq, cutM_eq, listM_eq, allM_eq, someM_ss, noneM_eq, revM_eq, consM_eq, minI_eq, maxI_eq, mk2_eq, mk3_eq, mk4_eq, anyM_eq, one1_eq, Bool.not_true, Bool.not_false]
      rw [shortM_ok (by simp)]
      simp only [c1, c2, c3, c4, c5, cmap, cbind, cnx, crt, cfin, cfinN, cfinR, cfinO, cfinP, cexn, cfinX, cfinXe, cfinXn, cfinXr, cfinXx, addI_eq, subI_eq, negI_eq, ltI_eq, leI_eq, gtI_eq, geI_eq, eqM_eq, neM_eq, inM_eq, notInM_eq, andM_2, orM_2, notM_ss, iteM_ss, lenL_eq, cutM_eq, listM_eq, allM_eq, someM_ss, noneM_eq, revM_eq, consM_eq, minI_eq, maxI_eq, mk2_eq, mk3_eq, mk4_eq, anyM_eq, one1_eq, Bool.not_true, Bool.not_false]
      rw [atI_ok (z := 0) (Int.emod_nonneg _ (by omega)) (by have := Int.emod_lt_of_pos (gI d (Int.toNat 3)) (show (0 : Int) < 6 by omega); simpa using this)]
      simp only [c1, c2, c3, c4, c5, cmap, cbind, cnx, crt, cfin, cfinN, cfinR, cfinO, cfinP, cexn, cfinX, cfinXe, cfinXn, cfinXr, cfinXx, addI_eq, subI_eq, negI_eq, ltI_eq, leI_eq, gtI_eq, geI_eq, eqM_eq, neM_eq, inM_eq, notInM_eq, andM_2, orM_2, notM_ss, iteM_ss, lenL_eq, cutM_eq, listM_eq, allM_eq, someM_ss, noneM_eq, revM_eq, consM_eq, minI_eq, maxI_eq, mk2_eq, mk3_eq, mk4_eq, anyM_eq, one1_eq, Bool.not_true, Bool.not_false]
      unfold setIM ixN
      rw [if_pos z0, if_pos (by simpa using z1)]
      exact fin _ (by simp)
    · exact fin [s.a, s.b, s.c, s.d] rfl
  · exact fin [_, _, _, _] rfl
end Kj

set_option Elab.async false
set_option linter.all false
set_option maxRecDepth 100000
set_option maxHeartbeats 4000000
/-! KjMp: plans. -/
namespace Kj
open PySem L2
def good (b : BL) (x0 x1 : List (List Int)) (u : List Int) (p : P2 (Tp Str) (P4 Int Int Int Int)) : Prop := meet b u p.a.items ≠ [] ∧ SwOk x0 x1 p.b
abbrev Pr : Type := P2 (Tp Str) (P4 Int Int Int Int)
def enumP (pl : List Pr) (k : Nat) : List (P2 Int Pr) := (pl.zipIdx k).map fun p => ⟨(p.2 : Int), p.1⟩
/-- what the pair at the place k says -/
def jstep (b : BL) (x0 x1 : List (List Int)) (u : List Int) (k : Int) (p : Pr) : Option (Fl Unit (Option (P2 Int Int))) := match (meet b u p.a.items).filter fun n => !decide (home x0 x1 n = p.b.a) with | [] => some (.nx ()) | v :: _ => some (.rt (some ⟨k, v⟩))
end Kj

set_option Elab.async false
set_option linter.all false
set_option maxRecDepth 100000
set_option maxHeartbeats 4000000
namespace Kj
open PySem L2
theorem sx_ok {b : BookT} {m : Nat} {x0 x1 : List (List Int)} (hd : DOk m x0 x1) {s : P4 Int Int Int Int} (h : SwOk x0 x1 s) : f_Deal_swept_x ⟨b, [x0, x1]⟩ s = some (.ok (swp x0 x1 s)) := by
  have q := swept_ok (b := b) hd h
  unfold f_Deal_swept at q
  unfold f_Deal_swept_x
  simp only [c2, check_sweep_ok (b := b) hd h] at q
  rw [c1] at q
  simp only [c2, csx_ok (b := b) hd h, xbO]
  exact finF_X q
theorem sx_no {b : BookT} {m : Nat} {x0 x1 : List (List Int)} (hd : DOk m x0 x1) {s : P4 Int Int Int Int} (h : ¬ SwOk x0 x1 s) : f_Deal_swept_x ⟨b, [x0, x1]⟩ s = some (.ex ⟨swB x0 x1 s, []⟩) := by
  unfold f_Deal_swept_x swB
  by_cases hr : RwOk x0 x1 s.a s.b
  · rw [if_pos hr, if_neg h]
    simp only [c1, c2, c3, c4, c5, cmap, cbind, cnx, crt, cfin, cfinN, cfinR, cfinO, cfinP, cexn, cfinX, cfinXe, cfinXn, cfinXr, cfinXx, addI_eq, subI_eq, negI_eq, ltI_eq, leI_eq, gtI_eq, geI_eq, eqM_eq, neM_eq, inM_eq, notInM_eq, andM_2, orM_2, notM_ss, iteM_ss, lenL_eq, cutM_eq, listM_eq, allM_eq, someM_ss, noneM_eq, revM_eq, consM_eq, minI_eq, maxI_eq, mk2_eq, mk3_eq, mk4_eq, anyM_eq, one1_eq, Bool.not_true, Bool.not_false, csx_c (b := b) hd hr h, xbE]
  · rw [if_neg hr]
    simp only [c1, c2, c3, c4, c5, cmap, cbind, cnx, crt, cfin, cfinN, cfinR, cfinO, cfinP, cexn, cfinX, cfinXe, cfinXn, cfinXr, cfinXx, addI_eq, subI_eq, negI_eq, ltI_eq, leI_eq, gtI_eq, geI_eq, eqM_eq, neM_eq, inM_eq, notInM_eq, andM_2, orM_2, notM_ss, iteM_ss, lenL_eq, cutM_eq, listM_eq, allM_eq, someM_ss, noneM_eq, revM_eq, consM_eq, minI_eq, maxI_eq, mk2_eq, mk3_eq, mk4_eq, anyM_eq, one1_eq, Bool.not_true, Bool.not_false, csx_f (b := b) hd hr, xbE]
theorem swB_ok {x0 x1 : List (List Int)} {s : P4 Int Int Int Int} (h : SwOk x0 x1 s) : swB x0 x1 s = "" := by unfold swB; rw [if_pos h.row, if_pos h]
theorem swB_no {x0 x1 : List (List Int)} {s : P4 Int Int Int Int} (h : ¬ SwOk x0 x1 s) : swB x0 x1 s = "NoField" ∨ swB x0 x1 s = "NoCard" := by
  unfold swB
  by_cases hr : RwOk x0 x1 s.a s.b
  · rw [if_pos hr, if_neg h]; exact .inr rfl
  · rw [if_neg hr]; exact .inl rfl
theorem tried_ok {b : BookT} {m : Nat} {x0 x1 : List (List Int)} (hd : DOk m x0 x1) {s : P4 Int Int Int Int} (h : SwOk x0 x1 s) : f_law_tried ⟨b, [x0, x1]⟩ s = some ⟨"", some (swp x0 x1 s)⟩ := by
  unfold f_law_tried
  rw [show b2 f_Deal_swept_x (some (⟨b, [x0, x1]⟩ : DealT)) (some s) = some (.ok (swp x0 x1 s)) from (c2 ..).trans (sx_ok hd h)]
  rfl
theorem tried_no {b : BookT} {m : Nat} {x0 x1 : List (List Int)} (hd : DOk m x0 x1) {s : P4 Int Int Int Int} (h : ¬ SwOk x0 x1 s) : f_law_tried ⟨b, [x0, x1]⟩ s = some ⟨swB x0 x1 s, none⟩ := by
  unfold f_law_tried
  rw [show b2 f_Deal_swept_x (some (⟨b, [x0, x1]⟩ : DealT)) (some s) = some (.ex ⟨swB x0 x1 s, []⟩) from (c2 ..).trans (sx_no hd h)]
  rcases swB_no h with e | e <;> rw [e] <;> rfl
theorem law_true (ns : List Int) (hn : ns.length ≤ 63) : f_law ns = some true := by
  suffices h : ∃ b, f_law ns = some b ∧ b = true by obtain ⟨b, e, rfl⟩ := h; exact e
  unfold f_law
  obtain ⟨d, ed, hd⟩ := numbers_ok (m := 360) hn (by omega)
  rw [show ((360 : Nat) : Int) = 360 from rfl] at ed
  simp only [c1, c2, c3, c4, c5, cmap, cbind, cnx, crt, cfin, cfinN, cfinR, cfinO, cfinP, cexn, cfinX, cfinXe, cfinXn, cfinXr, cfinXx, addI_eq, subI_eq, negI_eq, ltI_eq, leI_eq, gtI_eq, geI_eq, eqM_eq, neM_eq, inM_eq, notInM_eq, andM_2, orM_2, notM_ss, iteM_ss, lenL_eq, cutM_eq, listM_eq, allM_eq, someM_ss, noneM_eq, revM_eq, consM_eq, minI_eq, maxI_eq, mk2_eq, mk3_eq, mk4_eq, anyM_eq, one1_eq, Bool.not_true, Bool.not_false, ed, atI_nm hd (show (0 : Int) ≤ 0 by omega) (by omega), atI_nm hd (show (0 : Int) ≤ 1 by omega) (by omega), modI_pos (show (0 : Int) < 3 by omega), mulI_l (i := 4) (by omega) (by omega)]
  rw [shortM_ok (xs := ([6, 14, 40] : List Int)) (by decide), rngM_ok (j := 9) (by omega) (by omega)]
  simp only [c1, c2, c3, c4, c5, cmap, cbind, cnx, crt, cfin, cfinN, cfinR, cfinO, cfinP, cexn, cfinX, cfinXe, cfinXn, cfinXr, cfinXx, addI_eq, subI_eq, negI_eq, ltI_eq, leI_eq, gtI_eq, geI_eq, eqM_eq, neM_eq, inM_eq, notInM_eq, andM_2, orM_2, notM_ss, iteM_ss, lenL_eq, cutM_eq, listM_eq, allM_eq, someM_ss, noneM_eq, revM_eq, consM_eq, minI_eq, maxI_eq, mk2_eq, mk3_eq, mk4_eq, anyM_eq, one1_eq, Bool.not_true, Bool.not_false]
  obtain ⟨m, em, m1, m2⟩ := pick3 (a := 6) (b := 14) (c := 40) (gI d 0)
  rw [show Int.toNat 0 = 0 from rfl, show ([6, 14, 40] : List Int) = [((6 : Nat) : Int), ((14 : Nat) : Int), ((40 : Nat) : Int)] from rfl, em]
  simp only [c1, c2, c3, c4, c5, cmap, cbind, cnx, crt, cfin, cfinN, cfinR, cfinO, cfinP, cexn, cfinX, cfinXe, cfinXn, cfinXr, cfinXx, addI_eq, subI_eq, negI_eq, ltI_eq, leI_eq, gtI_eq, geI_eq, eqM_eq, neM_eq, inM_eq, notInM_eq, andM_2, orM_2, notM_ss, iteM_ss, lenL_eq, cutM_eq, listM_eq, allM_eq, someM_ss, noneM_eq, revM_eq, consM_eq, minI_eq, maxI_eq, mk2_eq, mk3_eq, mk4_eq, anyM_eq, one1_eq, Bool.not_true, Bool.not_false]
  rw [cutD_from (n := 40) _ (by omega), cutD_from (n := 300) _ (by omega)]
  obtain ⟨b, eb, hb⟩ := book_drawn (m := m) (d := d.drop (40 : Int).toNat) (by omega) (by omega) (by
    refine ((hd.drop 40).mono ?_)
    omega)
  rw [eb]
  have hbl := hb.2.1
  have hb4 : BookOk 40 b := hb.mono (by omega)
  simp only [c1, c2, c3, c4, c5, cmap, cbind, cnx, crt, cfin, cfinN, cfinR, cfinO, cfinP, cexn, cfinX, cfinXe, cfinXn, cfinXr, cfinXx, addI_eq, subI_eq, negI_eq, ltI_eq, leI_eq, gtI_eq, geI_eq, eqM_eq, neM_eq, inM_eq, notInM_eq, andM_2, orM_2, notM_ss, iteM_ss, lenL_eq, cutM_eq, listM_eq, allM_eq, someM_ss, noneM_eq, revM_eq, consM_eq, minI_eq, maxI_eq, mk2_eq, mk3_eq, mk4_eq, anyM_eq, one1_eq, Bool.not_true, Bool.not_false, copy_eq (show b.length ≤ 100000 by omega), init_ok hb4]
  obtain ⟨x0, x1, ef, hx⟩ := fields_ok (m := b.length) (d := d.drop (300 : Int).toNat) (by omega) (by rw [List.length_drop]; have := hd.1; omega)
  rw [ef]
  simp only [c1, c2, c3, c4, c5, cmap, cbind, cnx, crt, cfin, cfinN, cfinR, cfinO, cfinP, cexn, cfinX, cfinXe, cfinXn, cfinXr, cfinXx, addI_eq, subI_eq, negI_eq, ltI_eq, leI_eq, gtI_eq, geI_eq, eqM_eq, neM_eq, inM_eq, notInM_eq, andM_2, orM_2, notM_ss, iteM_ss, lenL_eq, cutM_eq, listM_eq, allM_eq, someM_ss, noneM_eq, revM_eq, consM_eq, minI_eq, maxI_eq, mk2_eq, mk3_eq, mk4_eq, anyM_eq, one1_eq, Bool.not_true, Bool.not_false, made_ok hx]
  obtain ⟨ss, ess, _, ls⟩ := law_sweeps_ok hx
  rw [ess]
  simp only [c1, c2, c3, c4, c5, cmap, cbind, cnx, crt, cfin, cfinN, cfinR, cfinO, cfinP, cexn, cfinX, cfinXe, cfinXn, cfinXr, cfinXx, addI_eq, subI_eq, negI_eq, ltI_eq, leI_eq, gtI_eq, geI_eq, eqM_eq, neM_eq, inM_eq, notInM_eq, andM_2, orM_2, notM_ss, iteM_ss, lenL_eq, cutM_eq, listM_eq, allM_eq, someM_ss, noneM_eq, revM_eq, consM_eq, minI_eq, maxI_eq, mk2_eq, mk3_eq, mk4_eq, anyM_eq, one1_eq, Bool.not_true, Bool.not_false]
  obtain ⟨ws, ews, lw, _⟩ := lc_ex (me := fun x1_1 : Int => f_law_wild [x0, x1] (cutD d (some (2 + 4 * x1_1)) none)) (P := fun _ => True) (xs := (List.range (9 : Int).toNat).map fun n : Nat => (n : Int)) (by simp) (fun i hi => by
    obtain ⟨k, hk, rfl⟩ := List.mem_map.mp hi
    have hk9 : k < 9 := by have := List.mem_range.mp hk; simpa using this
    rw [cutD_from (n := 2 + 4 * (k : Int)) _ (by omega)]
    obtain ⟨s, es⟩ := wild_ok hx (hd.drop (2 + 4 * (k : Int)).toNat) (by omega)
    exact ⟨s, es, trivial⟩)
  rw [ews]
  simp only [c1, c2, c3, c4, c5, cmap, cbind, cnx, crt, cfin, cfinN, cfinR, cfinO, cfinP, cexn, cfinX, cfinXe, cfinXn, cfinXr, cfinXx, addI_eq, subI_eq, negI_eq, ltI_eq, leI_eq, gtI_eq, geI_eq, eqM_eq, neM_eq, inM_eq, notInM_eq, andM_2, orM_2, notM_ss, iteM_ss, lenL_eq, cutM_eq, listM_eq, allM_eq, someM_ss, noneM_eq, revM_eq, consM_eq, minI_eq, maxI_eq, mk2_eq, mk3_eq, mk4_eq, anyM_eq, one1_eq, Bool.not_true, Bool.not_false]
  have lcut : ∀ lo : Option Int, (cutD ss lo (some 60)).length ≤ 864 := fun lo => by
    unfold cutD
    rw [List.length_take, List.length_drop]; omega
  rw [catM_ok (by rw [lw, List.length_map, List.length_range]; have := lcut (some (gI d (Int.toNat 1) % 3)); have e9 : Int.toNat 9 = 9 := rfl; omega)]
  simp only [c1, c2, c3, c4, c5, cmap, cbind, cnx, crt, cfin, cfinN, cfinR, cfinO, cfinP, cexn, cfinX, cfinXe, cfinXn, cfinXr, cfinXx, addI_eq, subI_eq, negI_eq, ltI_eq, leI_eq, gtI_eq, geI_eq, eqM_eq, neM_eq, inM_eq, notInM_eq, andM_2, orM_2, notM_ss, iteM_ss, lenL_eq, cutM_eq, listM_eq, allM_eq, someM_ss, noneM_eq, revM_eq, consM_eq, minI_eq, maxI_eq, mk2_eq, mk3_eq, mk4_eq, anyM_eq, one1_eq, Bool.not_true, Bool.not_false]
  generalize cutD ss (some (gI d (Int.toNat 1) % 3)) (some 60) ++ ws = all
  refine for_fin (fun _ _ => True) trivial ?_ fun s _ => ⟨_, rfl, rfl⟩
  rintro i s ⟨⟩ _ _
  rw [sweep_bad_eq]
  by_cases h : SwOk x0 x1 s
  · have lsw := swp_len hx h
    have ss1 : sameM (some (swp x0 x1 s)) (some (swp x0 x1 s)) = some true := by
      unfold sameM; rw [if_pos (show small (en (some (swp x0 x1 s))) = true from small_ints (by omega))]; simp
    have ss2 : sameM (swp x0 x1 s) (swp x0 x1 s) = some true := by unfold sameM; rw [if_pos (small_ints (by omega))]; simp
    rw [swB_ok h]
    simp only [c1, c2, c3, c4, c5, cmap, cbind, cnx, crt, cfin, cfinN, cfinR, cfinO, cfinP, cexn, cfinX, cfinXe, cfinXn, cfinXr, cfinXx, addI_eq, subI_eq, negI_eq, ltI_eq, leI_eq, gtI_eq, geI_eq, eqM_eq, neM_eq, inM_eq, notInM_eq, andM_2, orM_2, notM_ss, iteM_ss, lenL_eq, cutM_eq, listM_eq, allM_eq, someM_ss, noneM_eq, revM_eq, consM_eq, minI_eq, maxI_eq, mk2_eq, mk3_eq, mk4_eq, anyM_eq, one1_eq, Bool.not_true, Bool.not_false, tried_ok (b := ⟨b⟩) hx h, touched_ok hx h, swept_ok (b := ⟨b⟩) hx h, ss1, ss2, decide_true, Bool.false_eq_true, if_false, Bool.or_self]
    unfold spTO
    simp only [c1, c2, c3, c4, c5, cmap, cbind, cnx, crt, cfin, cfinN, cfinR, cfinO, cfinP, cexn, cfinX, cfinXe, cfinXn, cfinXr, cfinXx, addI_eq, subI_eq, negI_eq, ltI_eq, leI_eq, gtI_eq, geI_eq, eqM_eq, neM_eq, inM_eq, notInM_eq, andM_2, orM_2, notM_ss, iteM_ss, lenL_eq, cutM_eq, listM_eq, allM_eq, someM_ss, noneM_eq, revM_eq, consM_eq, minI_eq, maxI_eq, mk2_eq, mk3_eq, mk4_eq, anyM_eq, one1_eq, Bool.not_true, Bool.not_false, ss2, Bool.false_eq_true, if_false]
    rw [if_pos (by omega)]
    exact ⟨(), rfl, trivial⟩
  · have ne : decide (swB x0 x1 s = ("" : Str)) = false := by rcases swB_no h with e | e <;> rw [e] <;> rfl
    simp only [c1, c2, c3, c4, c5, cmap, cbind, cnx, crt, cfin, cfinN, cfinR, cfinO, cfinP, cexn, cfinX, cfinXe, cfinXn, cfinXr, cfinXx, addI_eq, subI_eq, negI_eq, ltI_eq, leI_eq, gtI_eq, geI_eq, eqM_eq, neM_eq, inM_eq, notInM_eq, andM_2, orM_2, notM_ss, iteM_ss, lenL_eq, cutM_eq, listM_eq, allM_eq, someM_ss, noneM_eq, revM_eq, consM_eq, minI_eq, maxI_eq, mk2_eq, mk3_eq, mk4_eq, anyM_eq, one1_eq, Bool.not_true, Bool.not_false, tried_no (b := ⟨b⟩) hx h, ne, if_true, decide_true, Bool.false_eq_true, if_false]
    exact ⟨(), trivial, trivial⟩
end Kj

set_option Elab.async false
set_option linter.all false
set_option maxRecDepth 100000
set_option maxHeartbeats 4000000
namespace Kj
open PySem L2
def topS (i : Nat) : Stmt := PySem.Challenge.pw_kimariji_k15_sweeps_touch.main.body.getD i (.Pass ⟨0, 0, 0, 0⟩)
structure Txt (K : PySem.W.Frag) (mg : Str → Option Value) : Prop where
  b_all : mg "all" = none
  b_any : mg "any" = none
  b_bool : mg "bool" = none
  b_enumerate : mg "enumerate" = none
  b_int : mg "int" = none
  b_isinstance : mg "isinstance" = none
  b_len : mg "len" = none
  b_list : mg "list" = none
  b_min : mg "min" = none
  b_range : mg "range" = none
  b_set : mg "set" = none
  b_str : mg "str" = none
  b_tuple : mg "tuple" = none
  b_zip : mg "zip" = none
  g_MOST_CARDS : ∃ t, mg "MOST_CARDS" = some (.int 12 t)
  g_MOST_LETTERS : ∃ t, mg "MOST_LETTERS" = some (.int 3 t)
  g_MOST_ROWS : ∃ t, mg "MOST_ROWS" = some (.int 3 t)
  g_MOST_SYLLABLES : ∃ t, mg "MOST_SYLLABLES" = some (.int 8 t)
  g_MOST_VERSES : ∃ t, mg "MOST_VERSES" = some (.int 40 t)
  c_Book : Cls K (cBook K)
  c_Deal : Cls K (cDeal K)
  n_Book_lines : NoAttr K (cBook K) "lines"
  n_Deal_fields : NoAttr K (cDeal K) "fields"
  n_Deal_source : NoAttr K (cDeal K) "source"
  e_NoCard : ExcT K mg "NoCard" (He.ga K "NoCard")
  e_NoField : ExcT K mg "NoField" (He.ga K "NoField")
  g_NoCard : mg "NoCard" = some (.ref (He.ga K "NoCard"))
  g_NoField : mg "NoField" = some (.ref (He.ga K "NoField"))
  g_SnatchError : mg "SnatchError" = some (.ref (He.ga K "SnatchError"))
  x_exm : exmB K lxn lxc = true
abbrev s_law_numbers : Stmt := topS 30
theorem sc_law_numbers : FnScope ["_law_script", "_law_many", "_law_row", "_law_seed", "_law_cell", "_law_rest", "_law_k"] ["_law_script", "_law_many"] (defScope s_law_numbers) := ⟨rfl, rfl, rfl, by decide +kernel, rfl, by decide +kernel, by decide +kernel⟩
abbrev s_law_same : Stmt := topS 31
theorem sc_law_same : FnScope ["_law_found", "_law_due", "_law_one", "_law_other"] ["_law_found", "_law_due"] (defScope s_law_same) := ⟨rfl, rfl, rfl, by decide +kernel, rfl, by decide +kernel, by decide +kernel⟩
abbrev s_law_sound : Stmt := topS 32
theorem sc_law_sound : FnScope ["_law_number", "_law_letters", "_law_k"] ["_law_number"] (defScope s_law_sound) := ⟨rfl, rfl, rfl, by decide +kernel, rfl, by decide +kernel, by decide +kernel⟩
abbrev s_law_pool : Stmt := topS 33
theorem sc_law_pool : FnScope ["_law_d", "_law_k"] ["_law_d"] (defScope s_law_pool) := ⟨rfl, rfl, rfl, by decide +kernel, rfl, by decide +kernel, by decide +kernel⟩
abbrev s_law_alike : Stmt := topS 34
theorem sc_law_alike : FnScope ["_law_one", "_law_other", "_law_size"] ["_law_one", "_law_other"] (defScope s_law_alike) := ⟨rfl, rfl, rfl, by decide +kernel, rfl, by decide +kernel, by decide +kernel⟩
abbrev s_law_verse : Stmt := topS 35
theorem sc_law_verse : FnScope ["_law_verses", "_law_pool_here", "_law_d", "_law_line", "_law_ahead", "_law_k"] ["_law_verses", "_law_pool_here", "_law_d"] (defScope s_law_verse) := ⟨rfl, rfl, rfl, by decide +kernel, rfl, by decide +kernel, by decide +kernel⟩
abbrev s_law_wide : Stmt := topS 36
theorem sc_law_wide : FnScope ["_law_d", "_law_size", "_law_verses", "_law_k", "_law_at", "_law_line"] ["_law_d", "_law_size"] (defScope s_law_wide) := ⟨rfl, rfl, rfl, by decide +kernel, rfl, by decide +kernel, by decide +kernel⟩
abbrev s_law_book : Stmt := topS 37
theorem sc_law_book : FnScope ["_law_d", "_law_most", "_law_pool_here", "_law_verses", "_law_k", "_law_line", "_law_one"] ["_law_d", "_law_most"] (defScope s_law_book) := ⟨rfl, rfl, rfl, by decide +kernel, rfl, by decide +kernel, by decide +kernel⟩
abbrev s_law_copy : Stmt := topS 38
theorem sc_law_copy : FnScope ["_law_rows", "_law_row"] ["_law_rows"] (defScope s_law_copy) := ⟨rfl, rfl, rfl, by decide +kernel, rfl, by decide +kernel, by decide +kernel⟩
abbrev s_is_syllable : Stmt := topS 17
theorem sc_is_syllable : FnScope ["text", "letter"] ["text"] (defScope s_is_syllable) := ⟨rfl, rfl, rfl, by decide +kernel, rfl, by decide +kernel, by decide +kernel⟩
abbrev s_is_verse : Stmt := topS 16
theorem sc_is_verse : FnScope ["syllables", "text"] ["syllables"] (defScope s_is_verse) := ⟨rfl, rfl, rfl, by decide +kernel, rfl, by decide +kernel, by decide +kernel⟩
abbrev s_begins : Stmt := topS 18
theorem sc_begins : FnScope ["one", "other"] ["one", "other"] (defScope s_begins) := ⟨rfl, rfl, rfl, by decide +kernel, rfl, by decide +kernel, by decide +kernel⟩
abbrev s_check_rows : Stmt := topS 15
theorem sc_check_rows : FnScope ["rows", "row", "syllables", "other", "one"] ["rows"] (defScope s_check_rows) := ⟨rfl, rfl, rfl, by decide +kernel, rfl, by decide +kernel, by decide +kernel⟩
abbrev s_Book___init__ : Stmt := inClass (topS 14) 0
theorem sc_Book___init__ : FnScope ["self", "verses", "verse"] ["self", "verses"] (defScope s_Book___init__) := ⟨rfl, rfl, rfl, by decide +kernel, rfl, by decide +kernel, by decide +kernel⟩
abbrev s_Book_many : Stmt := inClass (topS 14) 1
theorem sc_Book_many : FnScope ["self"] ["self"] (defScope s_Book_many) := ⟨rfl, rfl, rfl, by decide +kernel, rfl, by decide +kernel, by decide +kernel⟩
abbrev s_check_verse : Stmt := topS 19
theorem sc_check_verse : FnScope ["book", "number"] ["book", "number"] (defScope s_check_verse) := ⟨rfl, rfl, rfl, by decide +kernel, rfl, by decide +kernel, by decide +kernel⟩
abbrev s_Book_verse : Stmt := inClass (topS 14) 2
theorem sc_Book_verse : FnScope ["self", "number"] ["self", "number"] (defScope s_Book_verse) := ⟨rfl, rfl, rfl, by decide +kernel, rfl, by decide +kernel, by decide +kernel⟩
abbrev s_law_copy_I : Stmt := s_law_copy
theorem sc_law_copy_I : FnScope ["_law_rows", "_law_row"] ["_law_rows"] (defScope s_law_copy_I) := sc_law_copy
abbrev s_copied : Stmt := topS 24
theorem sc_copied : FnScope ["rows", "cards"] ["rows"] (defScope s_copied) := ⟨rfl, rfl, rfl, by decide +kernel, rfl, by decide +kernel, by decide +kernel⟩
abbrev s_check_fields : Stmt := topS 25
theorem sc_check_fields : FnScope ["book", "fields", "rows", "cards", "lying", "card"] ["book", "fields"] (defScope s_check_fields) := ⟨rfl, rfl, rfl, by decide +kernel, rfl, by decide +kernel, by decide +kernel⟩
abbrev s_Deal___init__ : Stmt := inClass (topS 23) 0
theorem sc_Deal___init__ : FnScope ["self", "book", "zero", "one"] ["self", "book", "zero", "one"] (defScope s_Deal___init__) := ⟨rfl, rfl, rfl, by decide +kernel, rfl, by decide +kernel, by decide +kernel⟩
abbrev s_Deal_book : Stmt := inClass (topS 23) 1
theorem sc_Deal_book : FnScope ["self"] ["self"] (defScope s_Deal_book) := ⟨rfl, rfl, rfl, by decide +kernel, rfl, by decide +kernel, by decide +kernel⟩
abbrev s_check_field : Stmt := topS 26
theorem sc_check_field : FnScope ["field"] ["field"] (defScope s_check_field) := ⟨rfl, rfl, rfl, by decide +kernel, rfl, by decide +kernel, by decide +kernel⟩
abbrev s_Deal_rows : Stmt := inClass (topS 23) 2
theorem sc_Deal_rows : FnScope ["self", "field"] ["self", "field"] (defScope s_Deal_rows) := ⟨rfl, rfl, rfl, by decide +kernel, rfl, by decide +kernel, by decide +kernel⟩
abbrev s_Deal_cards : Stmt := inClass (topS 23) 3
theorem sc_Deal_cards : FnScope ["self", "field", "cards", "card"] ["self", "field"] (defScope s_Deal_cards) := ⟨rfl, rfl, rfl, by decide +kernel, rfl, by decide +kernel, by decide +kernel⟩
abbrev s_check_row : Stmt := topS 27
theorem sc_check_row : FnScope ["deal", "field", "row"] ["deal", "field", "row"] (defScope s_check_row) := ⟨rfl, rfl, rfl, by decide +kernel, rfl, by decide +kernel, by decide +kernel⟩
abbrev s_check_sweep : Stmt := topS 28
theorem sc_check_sweep : FnScope ["deal", "sweep", "field", "row", "first", "last"] ["deal", "sweep"] (defScope s_check_sweep) := ⟨rfl, rfl, rfl, by decide +kernel, rfl, by decide +kernel, by decide +kernel⟩
abbrev s_Deal_swept : Stmt := inClass (topS 23) 5
theorem sc_Deal_swept : FnScope ["self", "sweep", "field", "row", "first", "last"] ["self", "sweep"] (defScope s_Deal_swept) := ⟨rfl, rfl, rfl, by decide +kernel, rfl, by decide +kernel, by decide +kernel⟩
abbrev s_check_field_x : Stmt := s_check_field
theorem sc_check_field_x : FnScope ["field"] ["field"] (defScope s_check_field_x) := sc_check_field
abbrev s_Deal_rows_x : Stmt := s_Deal_rows
theorem sc_Deal_rows_x : FnScope ["self", "field"] ["self", "field"] (defScope s_Deal_rows_x) := sc_Deal_rows
abbrev s_check_row_x : Stmt := s_check_row
theorem sc_check_row_x : FnScope ["deal", "field", "row"] ["deal", "field", "row"] (defScope s_check_row_x) := sc_check_row
abbrev s_check_sweep_x : Stmt := s_check_sweep
theorem sc_check_sweep_x : FnScope ["deal", "sweep", "field", "row", "first", "last"] ["deal", "sweep"] (defScope s_check_sweep_x) := sc_check_sweep
abbrev s_Deal_swept_x : Stmt := s_Deal_swept
theorem sc_Deal_swept_x : FnScope ["self", "sweep", "field", "row", "first", "last"] ["self", "sweep"] (defScope s_Deal_swept_x) := sc_Deal_swept
abbrev s_law_fields : Stmt := topS 39
theorem sc_law_fields : FnScope ["_law_many", "_law_d", "_law_rows", "_law_k", "_law_verse_here", "_law_draw", "_law_home", "_law_row"] ["_law_many", "_law_d"] (defScope s_law_fields) := ⟨rfl, rfl, rfl, by decide +kernel, rfl, by decide +kernel, by decide +kernel⟩
abbrev s_law_made : Stmt := topS 40
theorem sc_law_made : FnScope ["_law_book_here", "_law_rows"] ["_law_book_here", "_law_rows"] (defScope s_law_made) := ⟨rfl, rfl, rfl, by decide +kernel, rfl, by decide +kernel, by decide +kernel⟩
abbrev s_law_sweeps : Stmt := topS 41
theorem sc_law_sweeps : FnScope ["_law_rows", "_law_found", "_law_field", "_law_row", "_law_cards", "_law_first", "_law_last"] ["_law_rows"] (defScope s_law_sweeps) := ⟨rfl, rfl, rfl, by decide +kernel, rfl, by decide +kernel, by decide +kernel⟩
abbrev s_law_touched : Stmt := topS 42
theorem sc_law_touched : FnScope ["_law_rows", "_law_sweep"] ["_law_rows", "_law_sweep"] (defScope s_law_touched) := ⟨rfl, rfl, rfl, by decide +kernel, rfl, by decide +kernel, by decide +kernel⟩
abbrev s_law_sweep_bad : Stmt := topS 43
theorem sc_law_sweep_bad : FnScope ["_law_rows", "_law_sweep"] ["_law_rows", "_law_sweep"] (defScope s_law_sweep_bad) := ⟨rfl, rfl, rfl, by decide +kernel, rfl, by decide +kernel, by decide +kernel⟩
abbrev s_law_wild : Stmt := topS 44
theorem sc_law_wild : FnScope ["_law_rows", "_law_d", "_law_some", "_law_sweep", "_law_at"] ["_law_rows", "_law_d"] (defScope s_law_wild) := ⟨rfl, rfl, rfl, by decide +kernel, rfl, by decide +kernel, by decide +kernel⟩
abbrev s_law_tried : Stmt := topS 45
theorem sc_law_tried : FnScope ["_law_deal", "_law_sweep", "_law_why", "_law_told"] ["_law_deal", "_law_sweep"] (defScope s_law_tried) := ⟨rfl, rfl, rfl, by decide +kernel, rfl, by decide +kernel, by decide +kernel⟩
abbrev s_law : Stmt := topS 46
theorem sc_law : FnScope ["_law_script", "_law_numbers_here", "_law_verses", "_law_rows", "_law_deal", "_law_some", "_law_k", "_law_sweep", "_law_why", "_law_found", "_law_due"] ["_law_script"] (defScope s_law) := ⟨rfl, rfl, rfl, by decide +kernel, rfl, by decide +kernel, by decide +kernel⟩
section
variable {P : Program} {w : World} {K : PySem.W.Frag} {mg : Str → Option Value} {base : Heap} {f : Addr} {fd : FuncData}
theorem ok_law_numbers (F : FnP K "_law_numbers" "_law_numbers" s_law_numbers f fd) (T : Txt K mg) : FnOk P w K mg base CX0 1 f fd ["_law_script", "_law_many"] (spF (sp2 (aE K) (aE K) (aE K) f_law_numbers)) := by
  refine fnN_ok F sc_law_numbers (fun As R h => by obtain ⟨v_law_script, v_law_many, c, rfl, _⟩ := h; rfl) (fun cdv A outer s H E hr => ?_)
  refine ⟨_, (pss_cons (ps_set (i := 2) sc_law_numbers.nd rfl (by first | exact Or.inl rfl | exact Or.inr rfl) (pe_lst pa_nil))
    (pss_cons (ps_set (i := 3) sc_law_numbers.nd rfl (by first | exact Or.inl rfl | exact Or.inr rfl) pe_int)
    (pss_cons (ps_for PassesOwn.never rfl (pi_listK (K := K) rfl (pe_slice (sl_listK (K := K) rfl) (pv 0) po_none (po_some pe_int))) (pg_name (i := 4) sc_law_numbers.nd rfl (by first | exact Or.inl rfl | exact Or.inr rfl)) (pss_cons (ps_set (i := 3) sc_law_numbers.nd rfl (by first | exact Or.inl rfl | exact Or.inr rfl) (pe_op op_mod (pe_op op_add (pe_op op_add (pe_op op_mul (pv 3) pe_int) (pe_op op_mod (pv 4) pe_int)) pe_int) pe_int))
    (pss_cons (ps_set (i := 5) sc_law_numbers.nd rfl (by first | exact Or.inl rfl | exact Or.inr rfl) (pe_op op_sub (pv 4) (pe_op op_pow pe_int pe_int)))
    (pss_cons (ps_if (pt_cmpR op_lt (pv 5) pe_int (nomark _)) (pss_cons (ps_expr (pe_bm PySem.F.plainAttrs_list PySem.F.slot_list_append PySem.F.type_list_append mt_append (pv 2) (pa_cons (pe_op op_mod (pv 4) pe_int) pa_nil)))
    pss_nil) pss_nil)
    (pss_cons (ps_for PassesOwn.never rfl (pi_range1 (by rfl) T.b_range (pa_cons pe_int pa_nil)) (pg_name (i := 6) sc_law_numbers.nd rfl (by first | exact Or.inl rfl | exact Or.inr rfl)) (pss_cons (ps_if (pt_cmpR op_gt (pv 5) pe_int (nomark _)) (pss_cons (ps_expr (pe_bm PySem.F.plainAttrs_list PySem.F.slot_list_append PySem.F.type_list_append mt_append (pv 2) (pa_cons (pe_op op_mod (pv 5) pe_int) pa_nil)))
    (pss_cons (ps_set (i := 5) sc_law_numbers.nd rfl (by first | exact Or.inl rfl | exact Or.inr rfl) (pe_op op_fdiv (pv 5) pe_int))
    pss_nil)) pss_nil)
    pss_nil))
    pss_nil)))))
    (pss_cons (ps_while PassesOwn.never (pt_cmpR op_lt (pe_callB (call_lenK (K := K) rfl) (by rfl) T.b_len (by decide +kernel) (pa_cons (pv 2) pa_nil)) (pv 1) (nomark _)) (pss_cons (ps_set (i := 3) sc_law_numbers.nd rfl (by first | exact Or.inl rfl | exact Or.inr rfl) (pe_op op_mod (pe_op op_add (pe_op op_add (pe_op op_add (pe_op op_mul (pv 3) (pv 3)) (pe_op op_mul pe_int (pv 3))) (pe_op op_mul pe_int (pe_callB (call_lenK (K := K) rfl) (by rfl) T.b_len (by decide +kernel) (pa_cons (pv 2) pa_nil)))) pe_int) pe_int))
    (pss_cons (ps_expr (pe_bm PySem.F.plainAttrs_list PySem.F.slot_list_append PySem.F.type_list_append mt_append (pv 2) (pa_cons (pe_op op_mod (pe_op op_fdiv (pv 3) pe_int) pe_int) pa_nil)))
    pss_nil)))
    (pss_cons (ps_ret (pe_slice (sl_listK (K := K) rfl) (pv 2) po_none (po_some (pv 1)))) pss_nil))))), fun H0 As R hS => ?_⟩
  obtain ⟨v_law_script, v_law_many, c, rfl, h, rfl⟩ := hS
  exact db_fin (B := fun (_ : Unit) => [.no, .no, .no, .no, .no, .no, .no]) (show DB ⟨C0.W, K⟩ H0 [sl false ((aE K) v_law_script), sl false ((aE K) v_law_many), .no, .no, .no, .no, .no] _ (aE K) _ _ from (db_own (α := Int) (i := 2) (fun v_law_row => (db_set (i := 3) (f := true) (Ax := (aE K)) dm_int (fun v_law_seed => (db_for (vs := [4]) (B1 := fun (s1 : (List Int) × Int) => [sl false ((aE K) v_law_script), sl false ((aE K) v_law_many), .own (oE K s1.1), sl true ((aE K) s1.2), .no, .no, .no]) (s0 := (v_law_row, v_law_seed)) (dwm_list (dm_slF (dm_var (A := (aE K)) (f := false) (x := v_law_script) rfl) dom_no (dom_so dm_int))) (.cons .same (.cons .same (.cons .same (.cons .same (.cons .drop (.cons .drop (.cons .drop .nil))))))) (fun x2 s1 => dg_name) (fun x2 s1 => (db_set (i := 3) (f := true) (Ax := (aE K)) (dm_mod (dm_add (dm_add (dm_mul (dm_up (g := true) (dm_var (A := (aE K)) (f := true) (x := s1.2) rfl)) dm_int) (dm_mod (dm_up (g := true) (dm_var (A := (aE K)) (f := true) (x := x2) rfl)) dm_int)) dm_int) dm_int) (fun v_law_seed => (db_set (i := 5) (f := true) (Ax := (aE K)) (dm_sub (dm_up (g := true) (dm_var (A := (aE K)) (f := true) (x := x2) rfl)) (dm_pow dm_int dm_int)) (fun v_law_rest => (db_if (B1 := fun (s8 : (List Int)) => [sl false ((aE K) v_law_script), sl false ((aE K) v_law_many), .own (oE K s8), sl true ((aE K) v_law_seed), sl true ((aE K) x2), sl true ((aE K) v_law_rest), .no]) (dtm_test (dm_cmp (G := ltI) (g := fun i j => decide (i < j)) (dm_up (g := true) (dm_var (A := (aE K)) (f := true) (x := v_law_rest) rfl)) dm_int (fun _ _ => rfl))) (db_app (i := 2) (xs := s1.1) rfl (dm_mod (dm_up (g := true) (dm_var (A := (aE K)) (f := true) (x := x2) rfl)) dm_int) (fun v_law_row => (db_nx (s := v_law_row) (.cons .same (.cons .same (.cons .same (.cons .same (.cons .same (.cons .same (.cons .drop .nil)))))))))) (db_nx (s := s1.1) (.cons .same (.cons .same (.cons .same (.cons .same (.cons .same (.cons .same (.cons .drop .nil)))))))) (fun s8 => (db_for (vs := [6]) (B1 := fun (s9 : (List Int) × Int) => [sl false ((aE K) v_law_script), sl false ((aE K) v_law_many), .own (oE K s9.1), sl true ((aE K) v_law_seed), sl true ((aE K) x2), sl true ((aE K) s9.2), .no]) (s0 := (s8, v_law_rest)) (dwm_rng1 dm_int) (.cons .same (.cons .same (.cons .same (.cons .same (.cons .same (.cons .same (.cons .drop .nil))))))) (fun x10 s9 => dg_name) (fun x10 s9 => (db_if (B1 := fun (s12 : (List Int) × Int) => [sl false ((aE K) v_law_script), sl false ((aE K) v_law_many), .own (oE K s12.1), sl true ((aE K) v_law_seed), sl true ((aE K) x2), sl true ((aE K) s12.2), sl true ((aE K) x10)]) (dtm_test (dm_cmp (G := gtI) (g := fun i j => decide (j < i)) (dm_up (g := true) (dm_var (A := (aE K)) (f := true) (x := s9.2) rfl)) dm_int (fun _ _ => rfl))) (db_app (i := 2) (xs := s9.1) rfl (dm_mod (dm_up (g := true) (dm_var (A := (aE K)) (f := true) (x := s9.2) rfl)) dm_int) (fun v_law_row => (db_set (i := 5) (f := true) (Ax := (aE K)) (dm_div (dm_up (g := true) (dm_var (A := (aE K)) (f := true) (x := s9.2) rfl)) dm_int) (fun v_law_rest => (db_nx (s := (v_law_row, v_law_rest)) (.cons .same (.cons .same (.cons .same (.cons .same (.cons .same (.cons .same (.cons .same .nil)))))))))))) (db_nx (s := (s9.1, s9.2)) (.cons .same (.cons .same (.cons .same (.cons .same (.cons .same (.cons .same (.cons .same .nil)))))))) (fun s12 => (db_nx (s := (s12.1, s12.2)) (.cons .same (.cons .same (.cons .same (.cons .same (.cons .same (.cons .same (.cons .drop .nil))))))))))) (fun s9 => (db_nx (s := (s9.1, v_law_seed)) (.cons .same (.cons .same (.cons .same (.cons .same (.cons .drop (.cons .drop (.cons .drop .nil))))))))))))))))) (fun s1 => (db_while (B1 := fun (s13 : (List Int) × Int) => [sl false ((aE K) v_law_script), sl false ((aE K) v_law_many), .own (oE K s13.1), sl true ((aE K) s13.2), .no, .no, .no]) (s0 := (s1.1, s1.2)) (.cons .same (.cons .same (.cons .same (.cons .same (.cons .drop (.cons .drop (.cons .drop .nil))))))) (fun s13 => (dtm_bor (bo_ownE (K := K) (i := 2) (xs := s13.1) rfl) (dtm_test (dm_cmp (G := ltI) (g := fun i j => decide (i < j)) (dm_len (dm_var (A := (aE K)) (f := true) (x := s13.1) rfl)) (dm_up (g := true) (dm_var (A := (aE K)) (f := false) (x := v_law_many) rfl)) (fun _ _ => rfl))))) (fun s13 => (db_set (i := 3) (f := true) (Ax := (aE K)) (dm_bor (bo_ownE (K := K) (i := 2) (xs := s13.1) rfl) (dm_mod (dm_add (dm_add (dm_add (dm_mul (dm_up (g := true) (dm_var (A := (aE K)) (f := true) (x := s13.2) rfl)) (dm_up (g := true) (dm_var (A := (aE K)) (f := true) (x := s13.2) rfl))) (dm_mul dm_int (dm_up (g := true) (dm_var (A := (aE K)) (f := true) (x := s13.2) rfl)))) (dm_mul dm_int (dm_len (dm_var (A := (aE K)) (f := true) (x := s13.1) rfl)))) dm_int) dm_int)) (fun v_law_seed => (db_app (i := 2) (xs := s13.1) rfl (dm_mod (dm_div (dm_up (g := true) (dm_var (A := (aE K)) (f := true) (x := v_law_seed) rfl)) dm_int) dm_int) (fun v_law_row => (db_nx (s := (v_law_row, v_law_seed)) (.cons .same (.cons .same (.cons .same (.cons .same (.cons .drop (.cons .drop (.cons .drop .nil))))))))))))) (fun s13 => (db_bor (bo_ownE (K := K) (i := 2) (xs := s13.1) rfl) (db_ret (dm_slF (dm_var (A := (aE K)) (f := true) (x := s13.1) rfl) dom_no (dom_so (dm_up (g := true) (dm_var (A := (aE K)) (f := false) (x := v_law_many) rfl))))))))))))))) h
theorem ok_law_same (F : FnP K "_law_same" "_law_same" s_law_same f fd) (T : Txt K mg) (hg : mg "_law_same" = some (.ref f)) : ∀ n, FnOk P w K mg base CX0 n f fd ["_law_found", "_law_due"] (spF (S_same K n))
  | 0 => fnOk_no fun As R ⟨_, _, _, _, _, z, _⟩ => nomatch z
  | n + 1 => by
    have D : DefAt P w K mg base "_law_same" n ["_law_found", "_law_due"] (spF (S_same K n)) := defAt (x := "_law_same") (qual := "_law_same") (st := s_law_same) F hg (ok_law_same F T hg n) fun _ _ _ _ _ _ us hl => match us, hl with | [_, _], _ => rfl
    refine fnD_ok F sc_law_same (fun As R h => by obtain ⟨d, e, rfl, _⟩ := h; rfl) (fun cdv A outer s H E hr As R hS => ?_)
    refine ⟨_, (pss_cons (ps_if (pt_cmp (pc_isN (pv 1)) rfl) (pss_cons (ps_ret (pe_cmp (pc_isN (pv 0)) rfl)) pss_nil) pss_nil)
    (pss_cons (ps_if (pt_val (pe_callB (call_isiTK (K := K) rfl) (by rfl) T.b_isinstance (by decide +kernel) (pa_cons (pv 1) (pa_cons (pe_tup (pa_cons (pe_bltn (v := .ty "list") (by rfl) T.b_list (by decide +kernel) rfl) (pa_cons (pe_bltn (v := .ty "tuple") (by rfl) T.b_tuple (by decide +kernel) rfl) pa_nil))) pa_nil))))
      (pss_cons (ps_if (PW.pt (pw_or (pt_cmpR op_ne (pe_callB (call_isiK (K := K) rfl) (by rfl) T.b_isinstance (by decide +kernel) (pa_cons (pv 0) (pa_cons (pe_bltn (v := .ty "list") (by rfl) T.b_list (by decide +kernel) rfl) pa_nil))) (pe_callB (call_isiK (K := K) rfl) (by rfl) T.b_isinstance (by decide +kernel) (pa_cons (pv 1) (pa_cons (pe_bltn (v := .ty "list") (by rfl) T.b_list (by decide +kernel) rfl) pa_nil))) (nomark _)) (pw_or1 (pt_cmpR op_ne (pe_callB (call_isiK (K := K) rfl) (by rfl) T.b_isinstance (by decide +kernel) (pa_cons (pv 0) (pa_cons (pe_bltn (v := .ty "tuple") (by rfl) T.b_tuple (by decide +kernel) rfl) pa_nil))) (pe_callB (call_isiK (K := K) rfl) (by rfl) T.b_isinstance (by decide +kernel) (pa_cons (pv 1) (pa_cons (pe_bltn (v := .ty "tuple") (by rfl) T.b_tuple (by decide +kernel) rfl) pa_nil))) (nomark _))))) (pss_cons (ps_ret pe_bl) pss_nil) pss_nil)
      (pss_cons (ps_ret (pe_and (pe_cmpR op_eq (pe_callB (call_lenK (K := K) rfl) (by rfl) T.b_len (by decide +kernel) (pa_cons (pv 0) pa_nil)) (pe_callB (call_lenK (K := K) rfl) (by rfl) T.b_len (by decide +kernel) (pa_cons (pv 1) pa_nil)) (nomark _)) (pe_one (pe_callB (cr_allK (K := K) rfl rfl) (by rfl) T.b_all (by decide +kernel) (pa_cons (pe_lc (own := [("_law_one", 2), ("_law_other", 3)]) (g := (gTup K 2 (gCons (gName 2) (gCons (gName 3) gNil)))) (by rfl) sc_law_same.nd (pi_zipAK (K := K) rfl (by rfl) T.b_zip (pa_cons (pv 0) (pa_cons (pv 1) pa_nil))) (blkOk_by (own := [("_law_one", 2), ("_law_other", 3)]) (N := ["_law_found", "_law_due", "_law_one", "_law_other"]) (sc := defScope s_law_same) (by decide +kernel)) (fun _ _ _ _ _ => (pg_tup rfl (pgs_cons (pg_name (i := 2) sc_law_same.nd rfl (by first | exact Or.inl rfl | exact Or.inr rfl)) (pgs_cons (pg_name (i := 3) sc_law_same.nd rfl (by first | exact Or.inl rfl | exact Or.inr rfl)) pgs_nil)))) (fun _ _ _ _ _ => pts_nil) (fun _ _ _ _ _ => (pe_callD D hr (by rfl) (pa_cons (pv 2) (pa_cons (pv 3) pa_nil))))) pa_nil))))) pss_nil)) pss_nil)
    (pss_cons (ps_if (PW.pt (pw_or (pt_cmpR op_ne (pe_callB (call_isiK (K := K) rfl) (by rfl) T.b_isinstance (by decide +kernel) (pa_cons (pv 0) (pa_cons (pe_bltn (v := .ty "bool") (by rfl) T.b_bool (by decide +kernel) rfl) pa_nil))) (pe_callB (call_isiK (K := K) rfl) (by rfl) T.b_isinstance (by decide +kernel) (pa_cons (pv 1) (pa_cons (pe_bltn (v := .ty "bool") (by rfl) T.b_bool (by decide +kernel) rfl) pa_nil))) (nomark _)) (pw_or1 (pt_cmpR op_ne (pe_callB (call_isiK (K := K) rfl) (by rfl) T.b_isinstance (by decide +kernel) (pa_cons (pv 0) (pa_cons (pe_bltn (v := .ty "str") (by rfl) T.b_str (by decide +kernel) rfl) pa_nil))) (pe_callB (call_isiK (K := K) rfl) (by rfl) T.b_isinstance (by decide +kernel) (pa_cons (pv 1) (pa_cons (pe_bltn (v := .ty "str") (by rfl) T.b_str (by decide +kernel) rfl) pa_nil))) (nomark _))))) (pss_cons (ps_ret pe_bl) pss_nil) pss_nil)
    (pss_cons (ps_ret (pe_and (pe_cmpR op_eq (pe_callB (call_isiK (K := K) rfl) (by rfl) T.b_isinstance (by decide +kernel) (pa_cons (pv 0) (pa_cons (pe_bltn (v := .ty "int") (by rfl) T.b_int (by decide +kernel) rfl) pa_nil))) (pe_callB (call_isiK (K := K) rfl) (by rfl) T.b_isinstance (by decide +kernel) (pa_cons (pv 1) (pa_cons (pe_bltn (v := .ty "int") (by rfl) T.b_int (by decide +kernel) rfl) pa_nil))) (nomark _)) (pe_one (pe_cmpR op_eq (pv 0) (pv 1) (nomark _))))) pss_nil)))), fun H0 => ?_⟩
    obtain ⟨d, e, rfl, p1, p2, d1, d2, sm, rfl⟩ := hS
    exact same_ds p1 p2 d1 d2 sm
theorem ok_law_sound (F : FnP K "_law_sound" "_law_sound" s_law_sound f fd) (T : Txt K mg) : FnOk P w K mg base CX0 1 f fd ["_law_number"] (spF (sp1 (aE K) (aE K) f_law_sound)) := by
  refine fnN_ok F sc_law_sound (fun As R h => by obtain ⟨v_law_number, c, rfl, _⟩ := h; rfl) (fun cdv A outer s H E hr => ?_)
  refine ⟨_, (pss_cons (ps_set (i := 1) sc_law_sound.nd rfl (by first | exact Or.inl rfl | exact Or.inr rfl) pe_str)
    (pss_cons (ps_ret (pe_joinK (K := K) rfl pe_str (pe_lc (own := [("_law_k", 2)]) (g := (gName 2)) (by rfl) sc_law_sound.nd (pi_range1 (by rfl) T.b_range (pa_cons (pe_op op_add pe_int (pe_op op_mod (pv 0) pe_int)) pa_nil)) (blkOk_by (own := [("_law_k", 2)]) (N := ["_law_number", "_law_letters", "_law_k"]) (sc := defScope s_law_sound) (by decide +kernel)) (fun _ _ _ _ _ => (pg_name (i := 2) sc_law_sound.nd rfl (by first | exact Or.inl rfl | exact Or.inr rfl))) (fun _ _ _ _ _ => pts_nil) (fun _ _ _ _ _ => (pe_ix ix_str (pv 1) (pe_op op_mod (pe_op op_add (pe_op op_fdiv (pv 0) pe_int) (pe_op op_mul (pv 2) (pe_op op_fdiv (pv 0) pe_int))) pe_int) (fun _ _ => rfl)))))) pss_nil)), fun H0 As R hS => ?_⟩
  obtain ⟨v_law_number, c, rfl, h, rfl⟩ := hS
  exact db_fin (B := fun (_ : Unit) => [.no, .no, .no]) (show DB ⟨C0.W, K⟩ H0 [sl false ((aE K) v_law_number), .no, .no] _ (aE K) _ _ from (db_set (i := 1) (f := true) (Ax := (aE K)) dm_str (fun v_law_letters => (db_ret (dm_join dm_str (dm_lc (vs := [2]) (dwm_rng1 (dm_add dm_int (dm_mod (dm_up (g := true) (dm_var (A := (aE K)) (f := false) (x := v_law_number) rfl)) dm_int))) (fun x1 => dg_name) (fun x1 => dtm_yes) (fun x1 => (dm_ixS (dm_up (g := true) (dm_var (A := (aE K)) (f := true) (x := v_law_letters) rfl)) (dm_mod (dm_add (dm_div (dm_up (g := true) (dm_var (A := (aE K)) (f := false) (x := v_law_number) rfl)) dm_int) (dm_mul (dm_up (g := true) (dm_var (A := (aE K)) (f := true) (x := x1) rfl)) (dm_div (dm_up (g := true) (dm_var (A := (aE K)) (f := false) (x := v_law_number) rfl)) dm_int))) dm_int))))))))) h
theorem ok_law_pool (F : FnP K "_law_pool" "_law_pool" s_law_pool f fd) (T : Txt K mg)
    (D_law_sound : DefAt P w K mg base "_law_sound" 1 ["_law_number"] (spF (sp1 (aE K) (aE K) f_law_sound))) : FnOk P w K mg base CX0 2 f fd ["_law_d"] (spF (sp1 (aE K) (aE K) f_law_pool)) := by
  refine fnN_ok F sc_law_pool (fun As R h => by obtain ⟨v_law_d, c, rfl, _⟩ := h; rfl) (fun cdv A outer s H E hr => ?_)
  refine ⟨_, (pss_cons (ps_if (pt_cmpR op_eq (pe_op op_mod (pe_ix (ix_listK (K := K) rfl) (pv 0) pe_int (fun _ _ => rfl)) pe_int) pe_int (nomark _)) (pss_cons (ps_ret (pe_lst (pa_cons pe_str (pa_cons pe_str (pa_cons pe_str (pa_cons pe_str (pa_cons pe_str (pa_cons pe_str pa_nil)))))))) pss_nil) pss_nil)
    (pss_cons (ps_if (pt_cmpR op_eq (pe_op op_mod (pe_ix (ix_listK (K := K) rfl) (pv 0) pe_int (fun _ _ => rfl)) pe_int) pe_int (nomark _)) (pss_cons (ps_ret (pe_lst (pa_cons pe_str (pa_cons pe_str (pa_cons pe_str (pa_cons pe_str (pa_cons pe_str (pa_cons pe_str pa_nil)))))))) pss_nil) pss_nil)
    (pss_cons (ps_ret (pe_lc (own := [("_law_k", 1)]) (g := (gName 1)) (by rfl) sc_law_pool.nd (pi_range2 (by rfl) T.b_range (pa_cons pe_int (pa_cons pe_int pa_nil))) (blkOk_by (own := [("_law_k", 1)]) (N := ["_law_d", "_law_k"]) (sc := defScope s_law_pool) (by decide +kernel)) (fun _ _ _ _ _ => (pg_name (i := 1) sc_law_pool.nd rfl (by first | exact Or.inl rfl | exact Or.inr rfl))) (fun _ _ _ _ _ => pts_nil) (fun _ _ _ _ _ => (pe_callD D_law_sound (hr.mono (by decide)) (by rfl) (pa_cons (pe_ix (ix_listK (K := K) rfl) (pv 0) (pv 1) (fun _ _ => rfl)) pa_nil))))) pss_nil))), fun H0 As R hS => ?_⟩
  obtain ⟨v_law_d, c, rfl, h, rfl⟩ := hS
  exact db_fin (B := fun (_ : Unit) => [.no, .no]) (show DB ⟨C0.W, K⟩ H0 [sl false ((aE K) v_law_d), .no] _ (aE K) _ _ from (db_if (B1 := fun (s1 : Unit) => [sl false ((aE K) v_law_d), .no]) (dtm_test (dm_eqI (dm_mod (dm_ixF (dm_var (A := (aE K)) (f := false) (x := v_law_d) rfl) dm_int) dm_int) dm_int)) (db_ret (dm_lst (f := true) (dam_cons dm_str (dam_cons dm_str (dam_cons dm_str (dam_cons dm_str (dam_cons dm_str (dam_cons dm_str (dam_nil (α := Str)))))))))) (db_nx (s := ()) (.cons .same (.cons .drop .nil))) (fun s1 => (db_if (B1 := fun (s2 : Unit) => [sl false ((aE K) v_law_d), .no]) (dtm_test (dm_eqI (dm_mod (dm_ixF (dm_var (A := (aE K)) (f := false) (x := v_law_d) rfl) dm_int) dm_int) dm_int)) (db_ret (dm_lst (f := true) (dam_cons dm_str (dam_cons dm_str (dam_cons dm_str (dam_cons dm_str (dam_cons dm_str (dam_cons dm_str (dam_nil (α := Str)))))))))) (db_nx (s := ()) (.cons .same (.cons .drop .nil))) (fun s2 => (db_ret (dm_lc (vs := [1]) (dwm_rng2 dm_int dm_int) (fun x3 => dg_name) (fun x3 => dtm_yes) (fun x3 => (dm_call1 bo_refl (dm_ixF (dm_var (A := (aE K)) (f := false) (x := v_law_d) rfl) (dm_up (g := true) (dm_var (A := (aE K)) (f := true) (x := x3) rfl)))))))))))) h
theorem ok_law_alike (F : FnP K "_law_alike" "_law_alike" s_law_alike f fd) (T : Txt K mg) : FnOk P w K mg base CX0 1 f fd ["_law_one", "_law_other"] (spF (sp2 (aE K) (aE K) (aE K) f_law_alike)) := by
  refine fnN_ok F sc_law_alike (fun As R h => by obtain ⟨v_law_one, v_law_other, c, rfl, _⟩ := h; rfl) (fun cdv A outer s H E hr => ?_)
  refine ⟨_, (pss_cons (ps_set (i := 2) sc_law_alike.nd rfl (by first | exact Or.inl rfl | exact Or.inr rfl) (pe_callB (call_min2 rfl) (by rfl) T.b_min (by decide +kernel) (pa_cons (pe_callB (call_lenK (K := K) rfl) (by rfl) T.b_len (by decide +kernel) (pa_cons (pv 0) pa_nil)) (pa_cons (pe_callB (call_lenK (K := K) rfl) (by rfl) T.b_len (by decide +kernel) (pa_cons (pv 1) pa_nil)) pa_nil))))
    (pss_cons (ps_ret (pe_cmpR (op_eqPK (K := K) rfl hr.units) (pe_slice (sl_listK (K := K) rfl) (pv 0) po_none (po_some (pv 2))) (pe_slice (sl_listK (K := K) rfl) (pv 1) po_none (po_some (pv 2))) (nomark _))) pss_nil)), fun H0 As R hS => ?_⟩
  obtain ⟨v_law_one, v_law_other, c, rfl, h, rfl⟩ := hS
  exact db_fin (B := fun (_ : Unit) => [.no, .no, .no]) (show DB ⟨C0.W, K⟩ H0 [sl false ((aE K) v_law_one), sl false ((aE K) v_law_other), .no] _ (aE K) _ _ from (db_set (i := 2) (f := true) (Ax := (aE K)) (dm_min (dm_len (dm_var (A := (aE K)) (f := false) (x := v_law_one) rfl)) (dm_len (dm_var (A := (aE K)) (f := false) (x := v_law_other) rfl))) (fun v_law_size => (db_ret (dm_eqP (dm_slF (dm_var (A := (aE K)) (f := false) (x := v_law_one) rfl) dom_no (dom_so (dm_up (g := true) (dm_var (A := (aE K)) (f := true) (x := v_law_size) rfl)))) (dm_slF (dm_var (A := (aE K)) (f := false) (x := v_law_other) rfl) dom_no (dom_so (dm_up (g := true) (dm_var (A := (aE K)) (f := true) (x := v_law_size) rfl)))) (by decide)))))) h
theorem ok_law_verse (F : FnP K "_law_verse" "_law_verse" s_law_verse f fd) (T : Txt K mg) : FnOk P w K mg base CX0 1 f fd ["_law_verses", "_law_pool_here", "_law_d"] (spF (sp3 (aE K) (aE K) (aE K) (aE K) f_law_verse)) := by
  refine fnN_ok F sc_law_verse (fun As R h => by obtain ⟨v_law_verses, v_law_pool_here, v_law_d, c, rfl, _⟩ := h; rfl) (fun cdv A outer s H E hr => ?_)
  refine ⟨_, (pss_cons (ps_set (i := 3) sc_law_verse.nd rfl (by first | exact Or.inl rfl | exact Or.inr rfl) (pe_lst pa_nil))
    (pss_cons (ps_if (PW.pt (pw_and (pt_cmpR (op_nePK (K := K) rfl hr.units) (pv 0) (pe_lst pa_nil) (nomark _)) (pw_and1 (pt_cmpR op_gt (pe_op op_mod (pe_ix (ix_listK (K := K) rfl) (pv 2) pe_int (fun _ _ => rfl)) pe_int) pe_int (nomark _))))) (pss_cons (ps_set (i := 4) sc_law_verse.nd rfl (by first | exact Or.inl rfl | exact Or.inr rfl) (pe_ix (ix_listK (K := K) rfl) (pv 0) (pe_op op_mod (pe_ix (ix_listK (K := K) rfl) (pv 2) pe_int (fun _ _ => rfl)) (pe_callB (call_lenK (K := K) rfl) (by rfl) T.b_len (by decide +kernel) (pa_cons (pv 0) pa_nil))) (fun _ _ => rfl)))
    (pss_cons (ps_set (i := 3) sc_law_verse.nd rfl (by first | exact Or.inl rfl | exact Or.inr rfl) (pe_slice (sl_listK (K := K) rfl) (pv 4) po_none (po_some (pe_op op_mod (pe_op op_fdiv (pe_ix (ix_listK (K := K) rfl) (pv 2) pe_int (fun _ _ => rfl)) pe_int) (pe_op op_add (pe_callB (call_lenK (K := K) rfl) (by rfl) T.b_len (by decide +kernel) (pa_cons (pv 4) pa_nil)) pe_int)))))
    pss_nil)) pss_nil)
    (pss_cons (ps_set (i := 3) sc_law_verse.nd rfl (by first | exact Or.inl rfl | exact Or.inr rfl) (pe_op (op_catK (K := K) rfl) (pv 3) (pe_lc (own := [("_law_k", 5)]) (g := (gName 5)) (by rfl) sc_law_verse.nd (pi_range1 (by rfl) T.b_range (pa_cons (pe_op op_add pe_int (pe_op op_mod (pe_ix (ix_listK (K := K) rfl) (pv 2) pe_int (fun _ _ => rfl)) pe_int)) pa_nil)) (blkOk_by (own := [("_law_k", 5)]) (N := ["_law_verses", "_law_pool_here", "_law_d", "_law_line", "_law_ahead", "_law_k"]) (sc := defScope s_law_verse) (by decide +kernel)) (fun _ _ _ _ _ => (pg_name (i := 5) sc_law_verse.nd rfl (by first | exact Or.inl rfl | exact Or.inr rfl))) (fun _ _ _ _ _ => pts_nil) (fun _ _ _ _ _ => (pe_ix (ix_listK (K := K) rfl) (pv 1) (pe_op op_mod (pe_ix (ix_listK (K := K) rfl) (pv 2) (pe_op op_add pe_int (pv 5)) (fun _ _ => rfl)) (pe_callB (call_lenK (K := K) rfl) (by rfl) T.b_len (by decide +kernel) (pa_cons (pv 1) pa_nil))) (fun _ _ => rfl))))))
    (pss_cons (ps_ret (pe_slice (sl_listK (K := K) rfl) (pv 3) po_none (po_some pe_int))) pss_nil)))), fun H0 As R hS => ?_⟩
  obtain ⟨v_law_verses, v_law_pool_here, v_law_d, c, rfl, h, rfl⟩ := hS
  exact db_fin (B := fun (_ : Unit) => [.no, .no, .no, .no, .no, .no]) (show DB ⟨C0.W, K⟩ H0 [sl false ((aE K) v_law_verses), sl false ((aE K) v_law_pool_here), sl false ((aE K) v_law_d), .no, .no, .no] _ (aE K) _ _ from (db_set (i := 3) (f := true) (Ax := (aE K)) (dm_lst (f := true) (dam_nil (α := Str))) (fun v_law_line => (db_if (B1 := fun (s1 : (List Str)) => [sl false ((aE K) v_law_verses), sl false ((aE K) v_law_pool_here), sl false ((aE K) v_law_d), sl true ((aE K) s1), .no, .no]) (dtm_and (dtm_test (dm_neP (dm_var (A := (aE K)) (f := false) (x := v_law_verses) rfl) (dm_lst (f := true) (dam_nil (α := (List Str)))) (by decide))) (dtm_test (dm_cmp (G := gtI) (g := fun i j => decide (j < i)) (dm_mod (dm_ixF (dm_var (A := (aE K)) (f := false) (x := v_law_d) rfl) dm_int) dm_int) dm_int (fun _ _ => rfl)))) (db_set (i := 4) (f := false) (Ax := (aE K)) (dm_ix (dm_var (A := (aE K)) (f := false) (x := v_law_verses) rfl) (dm_mod (dm_ixF (dm_var (A := (aE K)) (f := false) (x := v_law_d) rfl) dm_int) (dm_len (dm_var (A := (aE K)) (f := false) (x := v_law_verses) rfl)))) (fun v_law_ahead => (db_set (i := 3) (f := true) (Ax := (aE K)) (dm_slF (dm_var (A := (aE K)) (f := false) (x := v_law_ahead) rfl) dom_no (dom_so (dm_mod (dm_div (dm_ixF (dm_var (A := (aE K)) (f := false) (x := v_law_d) rfl) dm_int) dm_int) (dm_add (dm_len (dm_var (A := (aE K)) (f := false) (x := v_law_ahead) rfl)) dm_int)))) (fun v_law_line => (db_nx (s := v_law_line) (.cons .same (.cons .same (.cons .same (.cons .same (.cons .drop (.cons .drop .nil))))))))))) (db_nx (s := v_law_line) (.cons .same (.cons .same (.cons .same (.cons .same (.cons .drop (.cons .drop .nil))))))) (fun s1 => (db_set (i := 3) (f := true) (Ax := (aE K)) (dm_cat (dm_var (A := (aE K)) (f := true) (x := s1) rfl) (dm_lc (vs := [5]) (dwm_rng1 (dm_add dm_int (dm_mod (dm_ixF (dm_var (A := (aE K)) (f := false) (x := v_law_d) rfl) dm_int) dm_int))) (fun x2 => dg_name) (fun x2 => dtm_yes) (fun x2 => (dm_ixF (dm_var (A := (aE K)) (f := false) (x := v_law_pool_here) rfl) (dm_mod (dm_ixF (dm_var (A := (aE K)) (f := false) (x := v_law_d) rfl) (dm_add dm_int (dm_up (g := true) (dm_var (A := (aE K)) (f := true) (x := x2) rfl)))) (dm_len (dm_var (A := (aE K)) (f := false) (x := v_law_pool_here) rfl))))))) (fun v_law_line => (db_ret (dm_slF (dm_var (A := (aE K)) (f := true) (x := v_law_line) rfl) dom_no (dom_so dm_int)))))))))) h
theorem ok_law_wide (F : FnP K "_law_wide" "_law_wide" s_law_wide f fd) (T : Txt K mg) : FnOk P w K mg base CX0 1 f fd ["_law_d", "_law_size"] (spF (sp2 (aE K) (aE K) (aE K) f_law_wide)) := by
  refine fnN_ok F sc_law_wide (fun As R h => by obtain ⟨v_law_d, v_law_size, c, rfl, _⟩ := h; rfl) (fun cdv A outer s H E hr => ?_)
  refine ⟨_, (pss_cons (ps_set (i := 2) sc_law_wide.nd rfl (by first | exact Or.inl rfl | exact Or.inr rfl) (pe_lst pa_nil))
    (pss_cons (ps_for PassesOwn.never rfl (pi_range1 (by rfl) T.b_range (pa_cons (pv 1) pa_nil)) (pg_name (i := 3) sc_law_wide.nd rfl (by first | exact Or.inl rfl | exact Or.inr rfl)) (pss_cons (ps_set (i := 4) sc_law_wide.nd rfl (by first | exact Or.inl rfl | exact Or.inr rfl) (pe_op op_mod (pe_op op_add (pe_ix (ix_listK (K := K) rfl) (pv 0) pe_int (fun _ _ => rfl)) (pe_op op_mul (pv 3) (pe_op op_add pe_int (pe_op op_mul pe_int (pe_op op_mod (pe_ix (ix_listK (K := K) rfl) (pv 0) pe_int (fun _ _ => rfl)) pe_int))))) pe_int))
    (pss_cons (ps_set (i := 5) sc_law_wide.nd rfl (by first | exact Or.inl rfl | exact Or.inr rfl) (pe_lst (pa_cons (pe_ix (ix_listK (K := K) rfl) (pe_lst (pa_cons pe_str (pa_cons pe_str (pa_cons pe_str (pa_cons pe_str pa_nil))))) (pe_op op_fdiv (pv 4) pe_int) (fun _ _ => rfl)) (pa_cons (pe_ix (ix_listK (K := K) rfl) (pe_lst (pa_cons pe_str (pa_cons pe_str (pa_cons pe_str (pa_cons pe_str pa_nil))))) (pe_op op_mod (pe_op op_fdiv (pv 4) pe_int) pe_int) (fun _ _ => rfl)) (pa_cons (pe_ix (ix_listK (K := K) rfl) (pe_lst (pa_cons pe_str (pa_cons pe_str (pa_cons pe_str (pa_cons pe_str pa_nil))))) (pe_op op_mod (pv 4) pe_int) (fun _ _ => rfl)) pa_nil)))))
    (pss_cons (ps_expr (pe_bm PySem.F.plainAttrs_list PySem.F.slot_list_append PySem.F.type_list_append mt_append (pv 2) (pa_cons (pe_op (op_catK (K := K) rfl) (pv 5) (pe_slice (sl_listK (K := K) rfl) (pe_lst (pa_cons pe_str (pa_cons pe_str (pa_cons pe_str (pa_cons pe_str (pa_cons pe_str pa_nil)))))) po_none (po_some (pe_op op_mod (pe_op op_add (pe_ix (ix_listK (K := K) rfl) (pv 0) pe_int (fun _ _ => rfl)) (pe_op op_mul (pv 3) (pe_ix (ix_listK (K := K) rfl) (pv 0) pe_int (fun _ _ => rfl)))) pe_int)))) pa_nil)))
    pss_nil))))
    (pss_cons (ps_ret (pv 2)) pss_nil))), fun H0 As R hS => ?_⟩
  obtain ⟨v_law_d, v_law_size, c, rfl, h, rfl⟩ := hS
  exact db_fin (B := fun (_ : Unit) => [.no, .no, .no, .no, .no, .no]) (show DB ⟨C0.W, K⟩ H0 [sl false ((aE K) v_law_d), sl false ((aE K) v_law_size), .no, .no, .no, .no] _ (aE K) _ _ from (db_own (α := (List Str)) (i := 2) (fun v_law_verses => (db_for (vs := [3]) (B1 := fun (s1 : (List (List Str))) => [sl false ((aE K) v_law_d), sl false ((aE K) v_law_size), .own (oE K s1), .no, .no, .no]) (s0 := v_law_verses) (dwm_rng1 (dm_up (g := true) (dm_var (A := (aE K)) (f := false) (x := v_law_size) rfl))) (.cons .same (.cons .same (.cons .same (.cons .drop (.cons .drop (.cons .drop .nil)))))) (fun x2 s1 => dg_name) (fun x2 s1 => (db_set (i := 4) (f := true) (Ax := (aE K)) (dm_mod (dm_add (dm_ixF (dm_var (A := (aE K)) (f := false) (x := v_law_d) rfl) dm_int) (dm_mul (dm_up (g := true) (dm_var (A := (aE K)) (f := true) (x := x2) rfl)) (dm_add dm_int (dm_mul dm_int (dm_mod (dm_ixF (dm_var (A := (aE K)) (f := false) (x := v_law_d) rfl) dm_int) dm_int))))) dm_int) (fun v_law_at => (db_set (i := 5) (f := true) (Ax := (aE K)) (dm_lst (f := true) (dam_cons (dm_ixF (dm_lst (f := true) (dam_cons dm_str (dam_cons dm_str (dam_cons dm_str (dam_cons dm_str (dam_nil (α := Str))))))) (dm_div (dm_up (g := true) (dm_var (A := (aE K)) (f := true) (x := v_law_at) rfl)) dm_int)) (dam_cons (dm_ixF (dm_lst (f := true) (dam_cons dm_str (dam_cons dm_str (dam_cons dm_str (dam_cons dm_str (dam_nil (α := Str))))))) (dm_mod (dm_div (dm_up (g := true) (dm_var (A := (aE K)) (f := true) (x := v_law_at) rfl)) dm_int) dm_int)) (dam_cons (dm_ixF (dm_lst (f := true) (dam_cons dm_str (dam_cons dm_str (dam_cons dm_str (dam_cons dm_str (dam_nil (α := Str))))))) (dm_mod (dm_up (g := true) (dm_var (A := (aE K)) (f := true) (x := v_law_at) rfl)) dm_int)) (dam_nil (α := Str)))))) (fun v_law_line => (db_app (i := 2) (xs := s1) rfl (dm_cat (dm_var (A := (aE K)) (f := true) (x := v_law_line) rfl) (dm_slF (dm_lst (f := true) (dam_cons dm_str (dam_cons dm_str (dam_cons dm_str (dam_cons dm_str (dam_cons dm_str (dam_nil (α := Str)))))))) dom_no (dom_so (dm_mod (dm_add (dm_ixF (dm_var (A := (aE K)) (f := false) (x := v_law_d) rfl) dm_int) (dm_mul (dm_up (g := true) (dm_var (A := (aE K)) (f := true) (x := x2) rfl)) (dm_ixF (dm_var (A := (aE K)) (f := false) (x := v_law_d) rfl) dm_int))) dm_int)))) (fun v_law_verses => (db_nx (s := v_law_verses) (.cons .same (.cons .same (.cons .same (.cons .drop (.cons .drop (.cons .drop .nil)))))))))))))) (fun s1 => (db_bor (bo_ownE (K := K) (i := 2) (xs := s1) rfl) (db_ret (dm_var (A := (aE K)) (f := true) (x := s1) rfl)))))))) h
theorem ok_law_book (F : FnP K "_law_book" "_law_book" s_law_book f fd) (T : Txt K mg)
    (D_law_pool : DefAt P w K mg base "_law_pool" 2 ["_law_d"] (spF (sp1 (aE K) (aE K) f_law_pool)))
    (D_law_alike : DefAt P w K mg base "_law_alike" 1 ["_law_one", "_law_other"] (spF (sp2 (aE K) (aE K) (aE K) f_law_alike)))
    (D_law_verse : DefAt P w K mg base "_law_verse" 1 ["_law_verses", "_law_pool_here", "_law_d"] (spF (sp3 (aE K) (aE K) (aE K) (aE K) f_law_verse)))
    (D_law_wide : DefAt P w K mg base "_law_wide" 1 ["_law_d", "_law_size"] (spF (sp2 (aE K) (aE K) (aE K) f_law_wide))) : FnOk P w K mg base CX0 3 f fd ["_law_d", "_law_most"] (spF (sp2 (aE K) (aE K) (aE K) f_law_book)) := by
  refine fnN_ok F sc_law_book (fun As R h => by obtain ⟨v_law_d, v_law_most, c, rfl, _⟩ := h; rfl) (fun cdv A outer s H E hr => ?_)
  refine ⟨_, (pss_cons (ps_if (pt_cmpR op_eq (pe_op op_mod (pe_op op_fdiv (pe_ix (ix_listK (K := K) rfl) (pv 0) pe_int (fun _ _ => rfl)) pe_int) pe_int) pe_int (nomark _)) (pss_cons (ps_ret (pe_callD D_law_wide (hr.mono (by decide)) (by rfl) (pa_cons (pe_slice (sl_listK (K := K) rfl) (pv 0) (po_some pe_int) (po_some pe_int)) (pa_cons (pe_op op_add pe_int (pe_op op_mod (pe_ix (ix_listK (K := K) rfl) (pv 0) pe_int (fun _ _ => rfl)) (pv 1))) pa_nil)))) pss_nil) pss_nil)
    (pss_cons (ps_set (i := 2) sc_law_book.nd rfl (by first | exact Or.inl rfl | exact Or.inr rfl) (pe_slice (sl_listK (K := K) rfl) (pe_callD D_law_pool (hr.mono (by decide)) (by rfl) (pa_cons (pe_slice (sl_listK (K := K) rfl) (pv 0) (po_some pe_int) (po_some pe_int)) pa_nil)) po_none (po_some (pe_op op_add pe_int (pe_op op_mod (pe_ix (ix_listK (K := K) rfl) (pv 0) pe_int (fun _ _ => rfl)) pe_int)))))
    (pss_cons (ps_set (i := 3) sc_law_book.nd rfl (by first | exact Or.inl rfl | exact Or.inr rfl) (pe_lst pa_nil))
    (pss_cons (ps_for PassesOwn.never rfl (pi_range1 (by rfl) T.b_range (pa_cons (pe_op op_add pe_int (pe_op op_mod (pe_ix (ix_listK (K := K) rfl) (pv 0) pe_int (fun _ _ => rfl)) (pv 1))) pa_nil)) (pg_name (i := 4) sc_law_book.nd rfl (by first | exact Or.inl rfl | exact Or.inr rfl)) (pss_cons (ps_set (i := 5) sc_law_book.nd rfl (by first | exact Or.inl rfl | exact Or.inr rfl) (pe_callD D_law_verse (hr.mono (by decide)) (by rfl) (pa_cons (pv 3) (pa_cons (pv 2) (pa_cons (pe_slice (sl_listK (K := K) rfl) (pv 0) (po_some (pe_op op_add pe_int (pe_op op_mul pe_int (pv 4)))) (po_some (pe_op op_add pe_int (pe_op op_mul pe_int (pv 4))))) pa_nil)))))
    (pss_cons (ps_if (pt_val (pe_callB (cr_allK (K := K) rfl rfl) (by rfl) T.b_all (by decide +kernel) (pa_cons (pe_lc (own := [("_law_one", 6)]) (g := (gName 6)) (by rfl) sc_law_book.nd (pi_listK (K := K) rfl (pv 3)) (blkOk_by (own := [("_law_one", 6)]) (N := ["_law_d", "_law_most", "_law_pool_here", "_law_verses", "_law_k", "_law_line", "_law_one"]) (sc := defScope s_law_book) (by decide +kernel)) (fun _ _ _ _ _ => (pg_name (i := 6) sc_law_book.nd rfl (by first | exact Or.inl rfl | exact Or.inr rfl))) (fun _ _ _ _ _ => pts_nil) (fun _ _ _ _ _ => (pe_not (pe_callD D_law_alike (hr.mono (by decide)) (by rfl) (pa_cons (pv 5) (pa_cons (pv 6) pa_nil)))))) pa_nil))) (pss_cons (ps_expr (pe_bm PySem.F.plainAttrs_list PySem.F.slot_list_append PySem.F.type_list_append mt_append (pv 3) (pa_cons (pv 5) pa_nil)))
    pss_nil) pss_nil)
    pss_nil)))
    (pss_cons (ps_ret (pv 3)) pss_nil))))), fun H0 As R hS => ?_⟩
  obtain ⟨v_law_d, v_law_most, c, rfl, h, rfl⟩ := hS
  exact db_fin (B := fun (_ : Unit) => [.no, .no, .no, .no, .no, .no, .no]) (show DB ⟨C0.W, K⟩ H0 [sl false ((aE K) v_law_d), sl false ((aE K) v_law_most), .no, .no, .no, .no, .no] _ (aE K) _ _ from (db_if (B1 := fun (s1 : Unit) => [sl false ((aE K) v_law_d), sl false ((aE K) v_law_most), .no, .no, .no, .no, .no]) (dtm_test (dm_eqI (dm_mod (dm_div (dm_ixF (dm_var (A := (aE K)) (f := false) (x := v_law_d) rfl) dm_int) dm_int) dm_int) dm_int)) (db_ret (dm_call2 bo_refl (dm_slF (dm_var (A := (aE K)) (f := false) (x := v_law_d) rfl) (dom_so dm_int) (dom_so dm_int)) (dm_add dm_int (dm_mod (dm_ixF (dm_var (A := (aE K)) (f := false) (x := v_law_d) rfl) dm_int) (dm_up (g := true) (dm_var (A := (aE K)) (f := false) (x := v_law_most) rfl)))))) (db_nx (s := ()) (.cons .same (.cons .same (.cons .drop (.cons .drop (.cons .drop (.cons .drop (.cons .drop .nil)))))))) (fun s1 => (db_set (i := 2) (f := true) (Ax := (aE K)) (dm_slF (dm_call1 bo_refl (dm_slF (dm_var (A := (aE K)) (f := false) (x := v_law_d) rfl) (dom_so dm_int) (dom_so dm_int))) dom_no (dom_so (dm_add dm_int (dm_mod (dm_ixF (dm_var (A := (aE K)) (f := false) (x := v_law_d) rfl) dm_int) dm_int)))) (fun v_law_pool_here => (db_own (α := (List Str)) (i := 3) (fun v_law_verses => (db_for (vs := [4]) (B1 := fun (s2 : (List (List Str))) => [sl false ((aE K) v_law_d), sl false ((aE K) v_law_most), sl true ((aE K) v_law_pool_here), .own (oE K s2), .no, .no, .no]) (s0 := v_law_verses) (dwm_rng1 (dm_add dm_int (dm_mod (dm_ixF (dm_var (A := (aE K)) (f := false) (x := v_law_d) rfl) dm_int) (dm_up (g := true) (dm_var (A := (aE K)) (f := false) (x := v_law_most) rfl))))) (.cons .same (.cons .same (.cons .same (.cons .same (.cons .drop (.cons .drop (.cons .drop .nil))))))) (fun x3 s2 => dg_name) (fun x3 s2 => (db_set (i := 5) (f := true) (Ax := (aE K)) (dm_call3 (bo_ownE (K := K) (i := 3) (xs := s2) rfl) (dm_var (A := (aE K)) (f := true) (x := s2) rfl) (dm_var (A := (aE K)) (f := true) (x := v_law_pool_here) rfl) (dm_slF (dm_var (A := (aE K)) (f := false) (x := v_law_d) rfl) (dom_so (dm_add dm_int (dm_mul dm_int (dm_up (g := true) (dm_var (A := (aE K)) (f := true) (x := x3) rfl))))) (dom_so (dm_add dm_int (dm_mul dm_int (dm_up (g := true) (dm_var (A := (aE K)) (f := true) (x := x3) rfl))))))) (fun v_law_line => (db_if (B1 := fun (s7 : (List (List Str))) => [sl false ((aE K) v_law_d), sl false ((aE K) v_law_most), sl true ((aE K) v_law_pool_here), .own (oE K s7), sl true ((aE K) x3), sl true ((aE K) v_law_line), .no]) (dtm_bor (bo_ownE (K := K) (i := 3) (xs := s2) rfl) (dtm_B (dm_all (dm_lc (vs := [6]) (dwm_list (dm_var (A := (aE K)) (f := true) (x := s2) rfl)) (fun x6 => dg_name) (fun x6 => dtm_yes) (fun x6 => (dm_not (dm_call2 bo_refl (dm_var (A := (aE K)) (f := true) (x := v_law_line) rfl) (dm_var (A := (aE K)) (f := true) (x := x6) rfl)))))))) (db_app (i := 3) (xs := s2) rfl (dm_var (A := (aE K)) (f := true) (x := v_law_line) rfl) (fun v_law_verses => (db_nx (s := v_law_verses) (.cons .same (.cons .same (.cons .same (.cons .same (.cons .same (.cons .same (.cons .drop .nil)))))))))) (db_nx (s := s2) (.cons .same (.cons .same (.cons .same (.cons .same (.cons .same (.cons .same (.cons .drop .nil)))))))) (fun s7 => (db_nx (s := s7) (.cons .same (.cons .same (.cons .same (.cons .same (.cons .drop (.cons .drop (.cons .drop .nil))))))))))))) (fun s2 => (db_bor (bo_ownE (K := K) (i := 3) (xs := s2) rfl) (db_ret (dm_var (A := (aE K)) (f := true) (x := s2) rfl)))))))))))) h
theorem ok_law_copy (F : FnP K "_law_copy" "_law_copy" s_law_copy f fd) (T : Txt K mg) : FnOk P w K mg base CX0 1 f fd ["_law_rows"] (spF (sp1 (aE K) (aE K) f_law_copy)) := by
  refine fnN_ok F sc_law_copy (fun As R h => by obtain ⟨v_law_rows, c, rfl, _⟩ := h; rfl) (fun cdv A outer s H E hr => ?_)
  refine ⟨_, (pss_cons (ps_ret (pe_lc (own := [("_law_row", 1)]) (g := (gName 1)) (by rfl) sc_law_copy.nd (pi_listK (K := K) rfl (pv 0)) (blkOk_by (own := [("_law_row", 1)]) (N := ["_law_rows", "_law_row"]) (sc := defScope s_law_copy) (by decide +kernel)) (fun _ _ _ _ _ => (pg_name (i := 1) sc_law_copy.nd rfl (by first | exact Or.inl rfl | exact Or.inr rfl))) (fun _ _ _ _ _ => pts_nil) (fun _ _ _ _ _ => (pe_callTy (call_listK (K := K) rfl) (by rfl) T.b_list (by decide +kernel) (pa_cons (pv 1) pa_nil))))) pss_nil), fun H0 As R hS => ?_⟩
  obtain ⟨v_law_rows, c, rfl, h, rfl⟩ := hS
  exact db_fin (B := fun (_ : Unit) => [.no, .no]) (show DB ⟨C0.W, K⟩ H0 [sl false ((aE K) v_law_rows), .no] _ (aE K) _ _ from (db_ret (dm_lc (vs := [1]) (dwm_list (dm_var (A := (aE K)) (f := false) (x := v_law_rows) rfl)) (fun x1 => dg_name) (fun x1 => dtm_yes) (fun x1 => (dm_listF (dm_var (A := (aE K)) (f := false) (x := x1) rfl)))))) h
theorem ok_is_syllable (F : FnP K "is_syllable" "is_syllable" s_is_syllable f fd) (T : Txt K mg) : FnOk P w K mg base CX0 1 f fd ["text"] (spF (sp1 (aE K) (aE K) f_is_syllable)) := by
  refine fnN_ok F sc_is_syllable (fun As R h => by obtain ⟨v_text, c, rfl, _⟩ := h; rfl) (fun cdv A outer s H E hr => ?_)
  refine ⟨_, (pss_cons (ps_ret (pe_and (pe_chain op_le op_le pe_int (pe_callB (call_lenK (K := K) rfl) (by rfl) T.b_len (by decide +kernel) (pa_cons (pv 0) pa_nil)) (pe_globI (by rfl) T.g_MOST_LETTERS)) (pe_one (pe_callB (cr_allK (K := K) rfl rfl) (by rfl) T.b_all (by decide +kernel) (pa_cons (pe_lc (own := [("letter", 1)]) (g := (gName 1)) (by rfl) sc_is_syllable.nd (pi_str (pv 0)) (blkOk_by (own := [("letter", 1)]) (N := ["text", "letter"]) (sc := defScope s_is_syllable) (by decide +kernel)) (fun _ _ _ _ _ => (pg_name (i := 1) sc_is_syllable.nd rfl (by first | exact Or.inl rfl | exact Or.inr rfl))) (fun _ _ _ _ _ => pts_nil) (fun _ _ _ _ _ => (pe_chain op_le_str op_le_str pe_str (pv 1) pe_str))) pa_nil))))) pss_nil), fun H0 As R hS => ?_⟩
  obtain ⟨v_text, c, rfl, h, rfl⟩ := hS
  exact db_fin (B := fun (_ : Unit) => [.no, .no]) (show DB ⟨C0.W, K⟩ H0 [sl false ((aE K) v_text), .no] _ (aE K) _ _ from (db_ret (dm_and (dm_chI (G := leI) (G' := leI) (g := fun i j => decide (i ≤ j)) (g' := fun i j => decide (i ≤ j)) dm_int (dm_lenS (dm_up (g := true) (dm_var (A := (aE K)) (f := false) (x := v_text) rfl))) (dm_int (i := 3)) (fun _ _ => rfl) (fun _ _ => rfl)) (dm_all (dm_lc (vs := [1]) (dwm_str (dm_up (g := true) (dm_var (A := (aE K)) (f := false) (x := v_text) rfl))) (fun x1 => dg_name) (fun x1 => dtm_yes) (fun x1 => (dm_chS dm_str (dm_up (g := true) (dm_var (A := (aE K)) (f := true) (x := x1) rfl)) dm_str))))))) h
theorem ok_is_verse (F : FnP K "is_verse" "is_verse" s_is_verse f fd) (T : Txt K mg)
    (D_is_syllable : DefAt P w K mg base "is_syllable" 1 ["text"] (spF (sp1 (aE K) (aE K) f_is_syllable))) : FnOk P w K mg base CX0 2 f fd ["syllables"] (spF (sp1 (aE K) (aE K) f_is_verse)) := by
  refine fnN_ok F sc_is_verse (fun As R h => by obtain ⟨v_syllables, c, rfl, _⟩ := h; rfl) (fun cdv A outer s H E hr => ?_)
  refine ⟨_, (pss_cons (ps_ret (pe_and (pe_chain op_le op_le pe_int (pe_callB (call_lenK (K := K) rfl) (by rfl) T.b_len (by decide +kernel) (pa_cons (pv 0) pa_nil)) (pe_globI (by rfl) T.g_MOST_SYLLABLES)) (pe_one (pe_callB (cr_allK (K := K) rfl rfl) (by rfl) T.b_all (by decide +kernel) (pa_cons (pe_lc (own := [("text", 1)]) (g := (gName 1)) (by rfl) sc_is_verse.nd (pi_listK (K := K) rfl (pv 0)) (blkOk_by (own := [("text", 1)]) (N := ["syllables", "text"]) (sc := defScope s_is_verse) (by decide +kernel)) (fun _ _ _ _ _ => (pg_name (i := 1) sc_is_verse.nd rfl (by first | exact Or.inl rfl | exact Or.inr rfl))) (fun _ _ _ _ _ => pts_nil) (fun _ _ _ _ _ => (pe_callD D_is_syllable (hr.mono (by decide)) (by rfl) (pa_cons (pv 1) pa_nil)))) pa_nil))))) pss_nil), fun H0 As R hS => ?_⟩
  obtain ⟨v_syllables, c, rfl, h, rfl⟩ := hS
  exact db_fin (B := fun (_ : Unit) => [.no, .no]) (show DB ⟨C0.W, K⟩ H0 [sl false ((aE K) v_syllables), .no] _ (aE K) _ _ from (db_ret (dm_and (dm_chI (G := leI) (G' := leI) (g := fun i j => decide (i ≤ j)) (g' := fun i j => decide (i ≤ j)) dm_int (dm_len (dm_var (A := (aE K)) (f := false) (x := v_syllables) rfl)) (dm_int (i := 8)) (fun _ _ => rfl) (fun _ _ => rfl)) (dm_all (dm_lc (vs := [1]) (dwm_list (dm_var (A := (aE K)) (f := false) (x := v_syllables) rfl)) (fun x1 => dg_name) (fun x1 => dtm_yes) (fun x1 => (dm_call1 bo_refl (dm_up (g := true) (dm_var (A := (aE K)) (f := false) (x := x1) rfl))))))))) h
theorem ok_begins (F : FnP K "begins" "begins" s_begins f fd) (T : Txt K mg) : FnOk P w K mg base CX0 1 f fd ["one", "other"] (spF (sp2 (aE K) (aE K) (aE K) f_begins)) := by
  refine fnN_ok F sc_begins (fun As R h => by obtain ⟨v_one, v_other, c, rfl, _⟩ := h; rfl) (fun cdv A outer s H E hr => ?_)
  refine ⟨_, (pss_cons (ps_ret (pe_cmpR (op_eqPK (K := K) rfl hr.units) (pe_slice (sl_listK (K := K) rfl) (pv 1) po_none (po_some (pe_callB (call_lenK (K := K) rfl) (by rfl) T.b_len (by decide +kernel) (pa_cons (pv 0) pa_nil)))) (pv 0) (nomark _))) pss_nil), fun H0 As R hS => ?_⟩
  obtain ⟨v_one, v_other, c, rfl, h, rfl⟩ := hS
  exact db_fin (B := fun (_ : Unit) => [.no, .no]) (show DB ⟨C0.W, K⟩ H0 [sl false ((aE K) v_one), sl false ((aE K) v_other)] _ (aE K) _ _ from (db_ret (dm_eqP (dm_slF (dm_var (A := (aE K)) (f := false) (x := v_other) rfl) dom_no (dom_so (dm_len (dm_var (A := (aE K)) (f := false) (x := v_one) rfl)))) (dm_var (A := (aE K)) (f := false) (x := v_one) rfl) (by decide)))) h
theorem ok_check_rows (F : FnP K "check_rows" "check_rows" s_check_rows f fd) (T : Txt K mg)
    (D_is_verse : DefAt P w K mg base "is_verse" 2 ["syllables"] (spF (sp1 (aE K) (aE K) f_is_verse)))
    (D_begins : DefAt P w K mg base "begins" 1 ["one", "other"] (spF (sp2 (aE K) (aE K) (aE K) f_begins))) : FnOk P w K mg base CX0 3 f fd ["rows"] (spF (sp1 (aE K) (aE K) f_check_rows)) := by
  refine fnN_ok F sc_check_rows (fun As R h => by obtain ⟨v_rows, c, rfl, _⟩ := h; rfl) (fun cdv A outer s H E hr => ?_)
  refine ⟨_, (pss_cons (ps_if (pt_not (pt_chain op_le op_le pe_int (pe_callB (call_lenK (K := K) rfl) (by rfl) T.b_len (by decide +kernel) (pa_cons (pv 0) pa_nil)) (pe_globI (by rfl) T.g_MOST_VERSES))) (pss_cons ps_never pss_nil) pss_nil)
    (pss_cons (ps_for PassesOwn.never rfl (pi_enumK (K := K) rfl (by rfl) T.b_enumerate (pa_cons (pv 0) pa_nil)) (pg_tup rfl (pgs_cons (pg_name (i := 1) sc_check_rows.nd rfl (by first | exact Or.inl rfl | exact Or.inr rfl)) (pgs_cons (pg_name (i := 2) sc_check_rows.nd rfl (by first | exact Or.inl rfl | exact Or.inr rfl)) pgs_nil))) (pss_cons (ps_if (pt_not (pt_val (pe_callD D_is_verse (hr.mono (by decide)) (by rfl) (pa_cons (pv 2) pa_nil)))) (pss_cons ps_never pss_nil) pss_nil)
    pss_nil))
    (pss_cons (ps_for PassesOwn.never rfl (pi_range1 (by rfl) T.b_range (pa_cons (pe_callB (call_lenK (K := K) rfl) (by rfl) T.b_len (by decide +kernel) (pa_cons (pv 0) pa_nil)) pa_nil)) (pg_name (i := 3) sc_check_rows.nd rfl (by first | exact Or.inl rfl | exact Or.inr rfl)) (pss_cons (ps_for PassesOwn.never rfl (pi_range1 (by rfl) T.b_range (pa_cons (pv 3) pa_nil)) (pg_name (i := 4) sc_check_rows.nd rfl (by first | exact Or.inl rfl | exact Or.inr rfl)) (pss_cons (ps_if (PW.pt (pw_or (pt_val (pe_callD D_begins (hr.mono (by decide)) (by rfl) (pa_cons (pe_ix (ix_listK (K := K) rfl) (pv 0) (pv 4) (fun _ _ => rfl)) (pa_cons (pe_ix (ix_listK (K := K) rfl) (pv 0) (pv 3) (fun _ _ => rfl)) pa_nil)))) (pw_or1 (pt_val (pe_callD D_begins (hr.mono (by decide)) (by rfl) (pa_cons (pe_ix (ix_listK (K := K) rfl) (pv 0) (pv 3) (fun _ _ => rfl)) (pa_cons (pe_ix (ix_listK (K := K) rfl) (pv 0) (pv 4) (fun _ _ => rfl)) pa_nil))))))) (pss_cons ps_never pss_nil) pss_nil)
    pss_nil))
    pss_nil))
    pss_nil))), fun H0 As R hS => ?_⟩
  obtain ⟨v_rows, c, rfl, h, rfl⟩ := hS
  exact db_finN (B := fun (_ : Unit) => [.no, .no, .no, .no, .no]) (show DB ⟨C0.W, K⟩ H0 [sl false ((aE K) v_rows), .no, .no, .no, .no] _ (aE K) _ _ from (db_if (B1 := fun (s1 : Unit) => [sl false ((aE K) v_rows), .no, .no, .no, .no]) (dtm_not (dtm_test (dm_chI (G := leI) (G' := leI) (g := fun i j => decide (i ≤ j)) (g' := fun i j => decide (i ≤ j)) dm_int (dm_len (dm_var (A := (aE K)) (f := false) (x := v_rows) rfl)) (dm_int (i := 40)) (fun _ _ => rfl) (fun _ _ => rfl)))) db_none (db_nx (s := ()) (.cons .same (.cons .drop (.cons .drop (.cons .drop (.cons .drop .nil)))))) (fun s1 => (db_for (vs := [1, 2]) (B1 := fun (s2 : Unit) => [sl false ((aE K) v_rows), .no, .no, .no, .no]) (s0 := ()) (dwm_enum (dm_var (A := (aE K)) (f := false) (x := v_rows) rfl)) (.cons .same (.cons .drop (.cons .drop (.cons .drop (.cons .drop .nil))))) (fun x3 s2 => (dg_t2 (dgs_cons dg_nm (dgs_cons dg_nm dgs_nil)))) (fun x3 s2 => (db_if (B1 := fun (s5 : Unit) => [sl false ((aE K) v_rows), sl false ((aE K) x3.a), sl false ((aE K) x3.b), .no, .no]) (dtm_not (dtm_B (dm_call1 bo_refl (dm_var (A := (aE K)) (f := false) (x := x3.b) rfl)))) db_none (db_nx (s := ()) (.cons .same (.cons .same (.cons .same (.cons .drop (.cons .drop .nil)))))) (fun s5 => (db_nx (s := ()) (.cons .same (.cons .drop (.cons .drop (.cons .drop (.cons .drop .nil))))))))) (fun s2 => (db_for (vs := [3]) (B1 := fun (s6 : Unit) => [sl false ((aE K) v_rows), .no, .no, .no, .no]) (s0 := ()) (dwm_rng1 (dm_len (dm_var (A := (aE K)) (f := false) (x := v_rows) rfl))) (.cons .same (.cons .drop (.cons .drop (.cons .drop (.cons .drop .nil))))) (fun x7 s6 => dg_name) (fun x7 s6 => (db_for (vs := [4]) (B1 := fun (s12 : Unit) => [sl false ((aE K) v_rows), .no, .no, sl true ((aE K) x7), .no]) (s0 := ()) (dwm_rng1 (dm_up (g := true) (dm_var (A := (aE K)) (f := true) (x := x7) rfl))) (.cons .same (.cons .drop (.cons .drop (.cons .same (.cons .drop .nil))))) (fun x13 s12 => dg_name) (fun x13 s12 => (db_if (B1 := fun (s15 : Unit) => [sl false ((aE K) v_rows), .no, .no, sl true ((aE K) x7), sl true ((aE K) x13)]) (dtm_or (dtm_B (dm_call2 bo_refl (dm_ix (dm_var (A := (aE K)) (f := false) (x := v_rows) rfl) (dm_up (g := true) (dm_var (A := (aE K)) (f := true) (x := x13) rfl))) (dm_ix (dm_var (A := (aE K)) (f := false) (x := v_rows) rfl) (dm_up (g := true) (dm_var (A := (aE K)) (f := true) (x := x7) rfl))))) (dtm_B (dm_call2 bo_refl (dm_ix (dm_var (A := (aE K)) (f := false) (x := v_rows) rfl) (dm_up (g := true) (dm_var (A := (aE K)) (f := true) (x := x7) rfl))) (dm_ix (dm_var (A := (aE K)) (f := false) (x := v_rows) rfl) (dm_up (g := true) (dm_var (A := (aE K)) (f := true) (x := x13) rfl)))))) db_none (db_nx (s := ()) (.cons .same (.cons .drop (.cons .drop (.cons .same (.cons .same .nil)))))) (fun s15 => (db_nx (s := ()) (.cons .same (.cons .drop (.cons .drop (.cons .same (.cons .drop .nil))))))))) (fun s12 => (db_nx (s := ()) (.cons .same (.cons .drop (.cons .drop (.cons .drop (.cons .drop .nil))))))))) (fun s6 => (db_nx (s := ()) (.cons .drop (.cons .drop (.cons .drop (.cons .drop (.cons .drop .nil))))))))))))) h
theorem ok_Book___init__ (F : FnP K "__init__" "Book.__init__" s_Book___init__ f fd) (T : Txt K mg)
    (D_check_rows : DefAt P w K mg base "check_rows" 3 ["rows"] (spF (sp1 (aE K) (aE K) f_check_rows))) : FnOk P w K mg base CX0 4 f fd ["self", "verses"] (spI (si1 (aE K) (oBook K) f_Book___init__) (cBook K)) := by
  refine initM_ok F sc_Book___init__ (fun As fas h => by obtain ⟨v_verses, c, rfl, _⟩ := h; rfl) (fun cdv A outer s H E hr => ?_)
  refine ⟨_, (pss_cons (ps_expr (pe_callD D_check_rows (hr.mono (by decide)) (by rfl) (pa_cons (pv 1) pa_nil)))
    (pss_cons (ps_fld (pv 0) (pe_lc (own := [("verse", 2)]) (g := (gName 2)) (by rfl) sc_Book___init__.nd (pi_listK (K := K) rfl (pv 1)) (blkOk_by (own := [("verse", 2)]) (N := ["self", "verses", "verse"]) (sc := defScope s_Book___init__) (by decide +kernel)) (fun _ _ _ _ _ => (pg_name (i := 2) sc_Book___init__.nd rfl (by first | exact Or.inl rfl | exact Or.inr rfl))) (fun _ _ _ _ _ => pts_nil) (fun _ _ _ _ _ => (pe_callTy (call_listK (K := K) rfl) (by rfl) T.b_list (by decide +kernel) (pa_cons (pv 2) pa_nil)))) rfl) pss_nil)), fun H0 xo dx As fas hS => ?_⟩
  obtain ⟨v_verses, c, rfl, h, rfl⟩ := hS
  exact db_finI (O := oBook K) (rest := [.no, .no]) (show DB ⟨C0.W, K⟩ H0 [.own (oIns xo (cBook K) dx []), sl false ((aE K) v_verses), .no] _ (aE K) _ _ from (db_drop (dm_call1 bo_refl (dm_var (A := (aE K)) (f := false) (x := v_verses) rfl)) (db_fldP (i := 0) (Bf := (aE K)) rfl (dm_lc (vs := [2]) (dwm_list (dm_var (A := (aE K)) (f := false) (x := v_verses) rfl)) (fun x1 => dg_name) (fun x1 => dtm_yes) (fun x1 => (dm_listF (dm_var (A := (aE K)) (f := false) (x := x1) rfl)))) T.c_Book T.n_Book_lines (fun y0 => (db_nx (B := fun (s : BookT) => .own (oIns xo (cBook K) dx (oBook K s)) :: [.no, .no]) (.cons .same (.cons .drop (.cons .drop .nil)))))))) h
theorem ok_Book_many (F : FnP K "many" "Book.many" s_Book_many f fd) (T : Txt K mg) : FnOk P w K mg base CX0 1 f fd ["self"] (spF (sp1 (aBook K) (aE K) f_Book_many)) := by
  refine fnN_ok F sc_Book_many (fun As R h => by obtain ⟨v_self, c, rfl, _⟩ := h; rfl) (fun cdv A outer s H E hr => ?_)
  refine ⟨_, (pss_cons (ps_ret (pe_callB (call_lenK (K := K) rfl) (by rfl) T.b_len (by decide +kernel) (pa_cons (pe_fldK (K := K) rfl (pv 0) rfl) pa_nil))) pss_nil), fun H0 As R hS => ?_⟩
  obtain ⟨v_self, c, rfl, h, rfl⟩ := hS
  exact db_fin (B := fun (_ : Unit) => [.no]) (show DB ⟨C0.W, K⟩ H0 [sl false ((aBook K) v_self)] _ (aE K) _ _ from (db_ret (dm_len (dm_fld (Cl := cBook K) (O := oBook K) (B := (aE K)) (p := BookT.lines) (dm_var (A := (aBook K)) (f := false) (x := v_self) rfl) T.c_Book T.n_Book_lines (fun _ => rfl))))) h
theorem ok_check_verse (F : FnP K "check_verse" "check_verse" s_check_verse f fd) (T : Txt K mg)
    (D_Book_many : MethAt P w K mg base (cBook K) "many" 1 ["self"] (spF (sp1 (aBook K) (aE K) f_Book_many))) : FnOk P w K mg base CX0 2 f fd ["book", "number"] (spF (sp2 (aBook K) (aE K) (aE K) f_check_verse)) := by
  refine fnN_ok F sc_check_verse (fun As R h => by obtain ⟨v_book, v_number, c, rfl, _⟩ := h; rfl) (fun cdv A outer s H E hr => ?_)
  refine ⟨_, (pss_cons (ps_if (pt_not (pt_chain op_le op_lt pe_int (pv 1) (pe_meth0D (pv 0) D_Book_many (hr.mono (by decide))))) (pss_cons ps_never pss_nil) pss_nil)
    pss_nil), fun H0 As R hS => ?_⟩
  obtain ⟨v_book, v_number, c, rfl, h, rfl⟩ := hS
  exact db_finN (B := fun (_ : Unit) => [.no, .no]) (show DB ⟨C0.W, K⟩ H0 [sl false ((aBook K) v_book), sl false ((aE K) v_number)] _ (aE K) _ _ from (db_if (B1 := fun (s1 : Unit) => [sl false ((aBook K) v_book), sl false ((aE K) v_number)]) (dtm_not (dtm_test (dm_chI (G := leI) (G' := ltI) (g := fun i j => decide (i ≤ j)) (g' := fun i j => decide (i < j)) dm_int (dm_up (g := true) (dm_var (A := (aE K)) (f := false) (x := v_number) rfl)) (dm_meth0 (Cl := cBook K) (O := oBook K) (dm_var (A := (aBook K)) (f := false) (x := v_book) rfl)  (fun _ => rfl)) (fun _ _ => rfl) (fun _ _ => rfl)))) db_none (db_nx (s := ()) (.cons .same (.cons .same .nil))) (fun s1 => (db_nx (s := ()) (.cons .drop (.cons .drop .nil)))))) h
theorem ok_Book_verse (F : FnP K "verse" "Book.verse" s_Book_verse f fd) (T : Txt K mg)
    (D_check_verse : DefAt P w K mg base "check_verse" 2 ["book", "number"] (spF (sp2 (aBook K) (aE K) (aE K) f_check_verse))) : FnOk P w K mg base CX0 3 f fd ["self", "number"] (spF (sp2 (aBook K) (aE K) (aE K) f_Book_verse)) := by
  refine fnN_ok F sc_Book_verse (fun As R h => by obtain ⟨v_self, v_number, c, rfl, _⟩ := h; rfl) (fun cdv A outer s H E hr => ?_)
  refine ⟨_, (pss_cons (ps_expr (pe_callD D_check_verse (hr.mono (by decide)) (by rfl) (pa_cons (pv 0) (pa_cons (pv 1) pa_nil))))
    (pss_cons (ps_ret (pe_callTy (call_listK (K := K) rfl) (by rfl) T.b_list (by decide +kernel) (pa_cons (pe_ix (ix_listK (K := K) rfl) (pe_fldK (K := K) rfl (pv 0) rfl) (pv 1) (fun _ _ => rfl)) pa_nil))) pss_nil)), fun H0 As R hS => ?_⟩
  obtain ⟨v_self, v_number, c, rfl, h, rfl⟩ := hS
  exact db_fin (B := fun (_ : Unit) => [.no, .no]) (show DB ⟨C0.W, K⟩ H0 [sl false ((aBook K) v_self), sl false ((aE K) v_number)] _ (aE K) _ _ from (db_drop (dm_call2 bo_refl (dm_var (A := (aBook K)) (f := false) (x := v_self) rfl) (dm_up (g := true) (dm_var (A := (aE K)) (f := false) (x := v_number) rfl))) (db_ret (dm_listF (dm_ix (dm_fld (Cl := cBook K) (O := oBook K) (B := (aE K)) (p := BookT.lines) (dm_var (A := (aBook K)) (f := false) (x := v_self) rfl) T.c_Book T.n_Book_lines (fun _ => rfl)) (dm_up (g := true) (dm_var (A := (aE K)) (f := false) (x := v_number) rfl))))))) h
theorem ok_law_copy_I (F : FnP K "_law_copy" "_law_copy" s_law_copy_I f fd) (T : Txt K mg) : FnOk P w K mg base CX0 1 f fd ["_law_rows"] (spF (sp1 (aE K) (aE K) f_law_copy_I)) := by
  refine fnN_ok F sc_law_copy_I (fun As R h => by obtain ⟨v_law_rows, c, rfl, _⟩ := h; rfl) (fun cdv A outer s H E hr => ?_)
  refine ⟨_, (pss_cons (ps_ret (pe_lc (own := [("_law_row", 1)]) (g := (gName 1)) (by rfl) sc_law_copy_I.nd (pi_listK (K := K) rfl (pv 0)) (blkOk_by (own := [("_law_row", 1)]) (N := ["_law_rows", "_law_row"]) (sc := defScope s_law_copy_I) (by decide +kernel)) (fun _ _ _ _ _ => (pg_name (i := 1) sc_law_copy_I.nd rfl (by first | exact Or.inl rfl | exact Or.inr rfl))) (fun _ _ _ _ _ => pts_nil) (fun _ _ _ _ _ => (pe_callTy (call_listK (K := K) rfl) (by rfl) T.b_list (by decide +kernel) (pa_cons (pv 1) pa_nil))))) pss_nil), fun H0 As R hS => ?_⟩
  obtain ⟨v_law_rows, c, rfl, h, rfl⟩ := hS
  exact db_fin (B := fun (_ : Unit) => [.no, .no]) (show DB ⟨C0.W, K⟩ H0 [sl false ((aE K) v_law_rows), .no] _ (aE K) _ _ from (db_ret (dm_lc (vs := [1]) (dwm_list (dm_var (A := (aE K)) (f := false) (x := v_law_rows) rfl)) (fun x1 => dg_name) (fun x1 => dtm_yes) (fun x1 => (dm_listF (dm_var (A := (aE K)) (f := false) (x := x1) rfl)))))) h
theorem ok_copied (F : FnP K "copied" "copied" s_copied f fd) (T : Txt K mg) : FnOk P w K mg base CX0 1 f fd ["rows"] (spF (sp1 (aE K) (aE K) f_copied)) := by
  refine fnN_ok F sc_copied (fun As R h => by obtain ⟨v_rows, c, rfl, _⟩ := h; rfl) (fun cdv A outer s H E hr => ?_)
  refine ⟨_, (pss_cons (ps_ret (pe_lc (own := [("cards", 1)]) (g := (gName 1)) (by rfl) sc_copied.nd (pi_listK (K := K) rfl (pv 0)) (blkOk_by (own := [("cards", 1)]) (N := ["rows", "cards"]) (sc := defScope s_copied) (by decide +kernel)) (fun _ _ _ _ _ => (pg_name (i := 1) sc_copied.nd rfl (by first | exact Or.inl rfl | exact Or.inr rfl))) (fun _ _ _ _ _ => pts_nil) (fun _ _ _ _ _ => (pe_callTy (call_listK (K := K) rfl) (by rfl) T.b_list (by decide +kernel) (pa_cons (pv 1) pa_nil))))) pss_nil), fun H0 As R hS => ?_⟩
  obtain ⟨v_rows, c, rfl, h, rfl⟩ := hS
  exact db_fin (B := fun (_ : Unit) => [.no, .no]) (show DB ⟨C0.W, K⟩ H0 [sl false ((aE K) v_rows), .no] _ (aE K) _ _ from (db_ret (dm_lc (vs := [1]) (dwm_list (dm_var (A := (aE K)) (f := false) (x := v_rows) rfl)) (fun x1 => dg_name) (fun x1 => dtm_yes) (fun x1 => (dm_listF (dm_var (A := (aE K)) (f := false) (x := x1) rfl)))))) h
theorem ok_check_fields (F : FnP K "check_fields" "check_fields" s_check_fields f fd) (T : Txt K mg)
    (D_Book_many : MethAt P w K mg base (cBook K) "many" 1 ["self"] (spF (sp1 (aBook K) (aE K) f_Book_many))) : FnOk P w K mg base CX0 2 f fd ["book", "fields"] (spF (sp2 (aBook K) (aE K) (aE K) f_check_fields)) := by
  refine fnN_ok F sc_check_fields (fun As R h => by obtain ⟨v_book, v_fields, c, rfl, _⟩ := h; rfl) (fun cdv A outer s H E hr => ?_)
  refine ⟨_, (pss_cons (ps_for PassesOwn.never rfl (pi_listK (K := K) rfl (pv 1)) (pg_name (i := 2) sc_check_fields.nd rfl (by first | exact Or.inl rfl | exact Or.inr rfl)) (pss_cons (ps_if (pt_not (pt_chain op_le op_le pe_int (pe_callB (call_lenK (K := K) rfl) (by rfl) T.b_len (by decide +kernel) (pa_cons (pv 2) pa_nil)) (pe_globI (by rfl) T.g_MOST_ROWS))) (pss_cons ps_never pss_nil) pss_nil)
    (pss_cons (ps_if (pt_val (pe_callB (cr_anyK (K := K) rfl rfl) (by rfl) T.b_any (by decide +kernel) (pa_cons (pe_lc (own := [("cards", 3)]) (g := (gName 3)) (by rfl) sc_check_fields.nd (pi_listK (K := K) rfl (pv 2)) (blkOk_by (own := [("cards", 3)]) (N := ["book", "fields", "rows", "cards", "lying", "card"]) (sc := defScope s_check_fields) (by decide +kernel)) (fun _ _ _ _ _ => (pg_name (i := 3) sc_check_fields.nd rfl (by first | exact Or.inl rfl | exact Or.inr rfl))) (fun _ _ _ _ _ => pts_nil) (fun _ _ _ _ _ => (pe_cmpR op_gt (pe_callB (call_lenK (K := K) rfl) (by rfl) T.b_len (by decide +kernel) (pa_cons (pv 3) pa_nil)) (pe_globI (by rfl) T.g_MOST_CARDS) (nomark _)))) pa_nil))) (pss_cons ps_never pss_nil) pss_nil)
    pss_nil)))
    (pss_cons (ps_setLc3N (i := 4) (own := [("rows", 2), ("cards", 3), ("card", 5)]) (vs1 := [3, 5]) (vs2 := [5]) (by rfl) sc_check_fields.nd rfl rfl (sw_true rfl rfl rfl (by decide +kernel)) (pi_listK (K := K) rfl (pv 1)) (blkOk_by (own := [("rows", 2), ("cards", 3), ("card", 5)]) (N := ["book", "fields", "rows", "cards", "lying", "card"]) (sc := defScope s_check_fields) (by decide +kernel)) (by decide) (by decide) (fun _ _ _ _ _ => (pg_name (i := 2) sc_check_fields.nd rfl (by first | exact Or.inl rfl | exact Or.inr rfl))) (fun _ _ _ _ _ => pts_nil) (fun _ _ _ _ _ => (pi_listK (K := K) rfl (pv 2))) (fun _ _ _ _ _ => (pg_name (i := 3) sc_check_fields.nd rfl (by first | exact Or.inl rfl | exact Or.inr rfl))) (fun _ _ _ _ _ => pts_nil) (fun _ _ _ _ _ => (pi_listK (K := K) rfl (pv 3))) (fun _ _ _ _ _ => (pg_name (i := 5) sc_check_fields.nd rfl (by first | exact Or.inl rfl | exact Or.inr rfl))) (fun _ _ _ _ _ => pts_nil) (fun _ _ _ _ _ => (pv 5)))
    (pss_cons (ps_if (pt_not (pt_val (pe_callB (cr_allK (K := K) rfl rfl) (by rfl) T.b_all (by decide +kernel) (pa_cons (pe_lc (own := [("card", 5)]) (g := (gName 5)) (by rfl) sc_check_fields.nd (pi_listK (K := K) rfl (pv 4)) (blkOk_by (own := [("card", 5)]) (N := ["book", "fields", "rows", "cards", "lying", "card"]) (sc := defScope s_check_fields) (by decide +kernel)) (fun _ _ _ _ _ => (pg_name (i := 5) sc_check_fields.nd rfl (by first | exact Or.inl rfl | exact Or.inr rfl))) (fun _ _ _ _ _ => pts_nil) (fun _ _ _ _ _ => (pe_chain op_le op_lt pe_int (pv 5) (pe_meth0D (pv 0) D_Book_many (hr.mono (by decide)))))) pa_nil)))) (pss_cons ps_never pss_nil) pss_nil)
    (pss_cons (ps_if (pt_cmpR op_lt (pe_lenSetI (K := K) rfl rfl (by rfl) T.b_len (by rfl) T.b_set (pv 4)) (pe_callB (call_lenK (K := K) rfl) (by rfl) T.b_len (by decide +kernel) (pa_cons (pv 4) pa_nil)) (nomark _)) (pss_cons ps_never pss_nil) pss_nil)
    pss_nil)))), fun H0 As R hS => ?_⟩
  obtain ⟨v_book, v_fields, c, rfl, h, rfl⟩ := hS
  exact db_finN (B := fun (_ : Unit) => [.no, .no, .no, .no, .no, .no]) (show DB ⟨C0.W, K⟩ H0 [sl false ((aBook K) v_book), sl false ((aE K) v_fields), .no, .no, .no, .no] _ (aE K) _ _ from (db_for (vs := [2]) (B1 := fun (s1 : Unit) => [sl false ((aBook K) v_book), sl false ((aE K) v_fields), .no, .no, .no, .no]) (s0 := ()) (dwm_list (dm_var (A := (aE K)) (f := false) (x := v_fields) rfl)) (.cons .same (.cons .same (.cons .drop (.cons .drop (.cons .drop (.cons .drop .nil)))))) (fun x2 s1 => dg_name) (fun x2 s1 => (db_if (B1 := fun (s6 : Unit) => [sl false ((aBook K) v_book), sl false ((aE K) v_fields), sl false ((aE K) x2), .no, .no, .no]) (dtm_not (dtm_test (dm_chI (G := leI) (G' := leI) (g := fun i j => decide (i ≤ j)) (g' := fun i j => decide (i ≤ j)) dm_int (dm_len (dm_var (A := (aE K)) (f := false) (x := x2) rfl)) (dm_int (i := 3)) (fun _ _ => rfl) (fun _ _ => rfl)))) db_none (db_nx (s := ()) (.cons .same (.cons .same (.cons .same (.cons .drop (.cons .drop (.cons .drop .nil))))))) (fun s6 => (db_if (B1 := fun (s8 : Unit) => [sl false ((aBook K) v_book), sl false ((aE K) v_fields), sl false ((aE K) x2), .no, .no, .no]) (dtm_B (dm_any (dm_lc (vs := [3]) (dwm_list (dm_var (A := (aE K)) (f := false) (x := x2) rfl)) (fun x7 => dg_name) (fun x7 => dtm_yes) (fun x7 => (dm_cmp (G := gtI) (g := fun i j => decide (j < i)) (dm_len (dm_var (A := (aE K)) (f := false) (x := x7) rfl)) (dm_int (i := 12)) (fun _ _ => rfl)))))) db_none (db_nx (s := ()) (.cons .same (.cons .same (.cons .same (.cons .drop (.cons .drop (.cons .drop .nil))))))) (fun s8 => (db_nx (s := ()) (.cons .same (.cons .same (.cons .drop (.cons .drop (.cons .drop (.cons .drop .nil)))))))))))) (fun s1 => (db_set (i := 4) (f := true) (Ax := (aE K)) (dm_lcN (vs := [2, 3, 5]) (dwm_list (dm_var (A := (aE K)) (f := false) (x := v_fields) rfl)) (fun x9 => dg_name) (fun x9 => rfl) (fun x9 => dtm_yes) (fun x9 => (dbm_out (vs := [3, 5]) (dwm_list (dm_var (A := (aE K)) (f := false) (x := x9) rfl)) (fun x10 => dg_name) (fun x10 => rfl) (fun x10 => dtm_yes) (fun x10 => (dbm_out (vs := [5]) (dwm_list (dm_var (A := (aE K)) (f := false) (x := x10) rfl)) (fun x11 => dg_name) (fun x11 => rfl) (fun x11 => dtm_yes) (fun x11 => (dbm_in (dm_up (g := true) (dm_var (A := (aE K)) (f := false) (x := x11) rfl))))))))) (fun v_lying => (db_if (B1 := fun (s13 : Unit) => [sl false ((aBook K) v_book), sl false ((aE K) v_fields), .no, .no, sl true ((aE K) v_lying), .no]) (dtm_not (dtm_B (dm_all (dm_lc (vs := [5]) (dwm_list (dm_var (A := (aE K)) (f := true) (x := v_lying) rfl)) (fun x12 => dg_name) (fun x12 => dtm_yes) (fun x12 => (dm_chI (G := leI) (G' := ltI) (g := fun i j => decide (i ≤ j)) (g' := fun i j => decide (i < j)) dm_int (dm_up (g := true) (dm_var (A := (aE K)) (f := true) (x := x12) rfl)) (dm_meth0 (Cl := cBook K) (O := oBook K) (dm_var (A := (aBook K)) (f := false) (x := v_book) rfl)  (fun _ => rfl)) (fun _ _ => rfl) (fun _ _ => rfl))))))) db_none (db_nx (s := ()) (.cons .same (.cons .same (.cons .drop (.cons .drop (.cons .same (.cons .drop .nil))))))) (fun s13 => (db_if (B1 := fun (s14 : Unit) => [sl false ((aBook K) v_book), sl false ((aE K) v_fields), .no, .no, sl true ((aE K) v_lying), .no]) (dtm_test (dm_cmp (G := ltI) (g := fun i j => decide (i < j)) (dm_lenSetI (dm_var (A := (aE K)) (f := true) (x := v_lying) rfl)) (dm_len (dm_var (A := (aE K)) (f := true) (x := v_lying) rfl)) (fun _ _ => rfl))) db_none (db_nx (s := ()) (.cons .same (.cons .same (.cons .drop (.cons .drop (.cons .same (.cons .drop .nil))))))) (fun s14 => (db_nx (s := ()) (.cons .drop (.cons .drop (.cons .drop (.cons .drop (.cons .drop (.cons .drop .nil)))))))))))))))) h
theorem ok_Deal___init__ (F : FnP K "__init__" "Deal.__init__" s_Deal___init__ f fd) (T : Txt K mg)
    (D_copied : DefAt P w K mg base "copied" 1 ["rows"] (spF (sp1 (aE K) (aE K) f_copied)))
    (D_check_fields : DefAt P w K mg base "check_fields" 2 ["book", "fields"] (spF (sp2 (aBook K) (aE K) (aE K) f_check_fields))) : FnOk P w K mg base CX0 3 f fd ["self", "book", "zero", "one"] (spIR (si3 (aBook K) (aE K) (aE K) (oDeal K) f_Deal___init__) (cDeal K)) := by
  refine initR_ok F sc_Deal___init__ (fun As fas h => by obtain ⟨v_book, v_zero, v_one, c, rfl, _⟩ := h; rfl) (fun cdv A outer s H E hr => ?_)
  refine ⟨_, (pss_cons (ps_expr (pe_callD D_check_fields (hr.mono (by decide)) (by rfl) (pa_cons (pv 1) (pa_cons (pe_lst (pa_cons (pv 2) (pa_cons (pv 3) pa_nil))) pa_nil))))
    (pss_cons (ps_fld (pv 0) (pv 1) rfl) (pss_cons (ps_fld (pv 0) (pe_lst (pa_cons (pe_callD D_copied (hr.mono (by decide)) (by rfl) (pa_cons (pv 2) pa_nil)) (pa_cons (pe_callD D_copied (hr.mono (by decide)) (by rfl) (pa_cons (pv 3) pa_nil)) pa_nil))) rfl) pss_nil))), fun H0 xo dx As fas hS => ?_⟩
  obtain ⟨v_book, v_zero, v_one, c, rfl, h, rfl⟩ := hS
  exact db_finI (O := oDeal K) (rest := [.no, .no, .no]) (show DB ⟨C0.W, K⟩ H0 [.own (oIns xo (cDeal K) dx []), sl true ((aBook K) v_book), sl true ((aE K) v_zero), sl true ((aE K) v_one)] _ (aE K) _ _ from (db_drop (dm_call2 bo_refl (dm_var (A := (aBook K)) (f := true) (x := v_book) rfl) (dm_lst (f := true) (dam_cons (dm_var (A := (aE K)) (f := true) (x := v_zero) rfl) (dam_cons (dm_var (A := (aE K)) (f := true) (x := v_one) rfl) (dam_nil (α := (List (List Int)))))))) (db_fldP (i := 0) (Bf := (aBook K)) rfl (dm_var (A := (aBook K)) (f := true) (x := v_book) rfl) T.c_Deal T.n_Deal_source (fun y0 => (db_fldP (i := 0) (Bf := (aE K)) rfl (dm_lst (f := true) (dam_cons (dm_call1 bo_refl (dm_var (A := (aE K)) (f := true) (x := v_zero) rfl)) (dam_cons (dm_call1 bo_refl (dm_var (A := (aE K)) (f := true) (x := v_one) rfl)) (dam_nil (α := (List (List Int))))))) T.c_Deal T.n_Deal_fields (fun y1 => (db_nx (B := fun (s : DealT) => .own (oIns xo (cDeal K) dx (oDeal K s)) :: [.no, .no, .no]) (.cons .same (.cons .drop (.cons .drop (.cons .drop .nil))))))))))) h
theorem ok_Deal_book (F : FnP K "book" "Deal.book" s_Deal_book f fd) (T : Txt K mg) : FnOk P w K mg base CX0 1 f fd ["self"] (spR (sp1 (aDeal K) (aBook K) f_Deal_book)) := by
  refine fnR_ok F sc_Deal_book (fun As R h => by obtain ⟨v_self, c, rfl, _⟩ := h; rfl) (fun cdv A outer s H E hr => ?_)
  refine ⟨_, (pss_cons (ps_ret (pe_fldK (K := K) rfl (pv 0) rfl)) pss_nil), fun H0 As R hS => ?_⟩
  obtain ⟨v_self, c, rfl, h, rfl⟩ := hS
  exact db_fin (B := fun (_ : Unit) => [.no]) (show DB ⟨C0.W, K⟩ H0 [sl true ((aDeal K) v_self)] _ (aBook K) _ _ from (db_ret (dm_fld (Cl := cDeal K) (O := oDeal K) (B := (aBook K)) (p := DealT.source) (dm_var (A := (aDeal K)) (f := true) (x := v_self) rfl) T.c_Deal T.n_Deal_source (fun _ => rfl)))) h
theorem ok_check_field (F : FnP K "check_field" "check_field" s_check_field f fd) (T : Txt K mg) : FnOk P w K mg base CX0 1 f fd ["field"] (spF (sp1 (aE K) (aE K) f_check_field)) := by
  refine fnN_ok F sc_check_field (fun As R h => by obtain ⟨v_field, c, rfl, _⟩ := h; rfl) (fun cdv A outer s H E hr => ?_)
  refine ⟨_, (pss_cons (ps_if (pt_not (pt_chain op_le op_le pe_int (pv 0) pe_int)) (pss_cons ps_never pss_nil) pss_nil)
    pss_nil), fun H0 As R hS => ?_⟩
  obtain ⟨v_field, c, rfl, h, rfl⟩ := hS
  exact db_finN (B := fun (_ : Unit) => [.no]) (show DB ⟨C0.W, K⟩ H0 [sl false ((aE K) v_field)] _ (aE K) _ _ from (db_if (B1 := fun (s1 : Unit) => [sl false ((aE K) v_field)]) (dtm_not (dtm_test (dm_chI (G := leI) (G' := leI) (g := fun i j => decide (i ≤ j)) (g' := fun i j => decide (i ≤ j)) dm_int (dm_up (g := true) (dm_var (A := (aE K)) (f := false) (x := v_field) rfl)) dm_int (fun _ _ => rfl) (fun _ _ => rfl)))) db_none (db_nx (s := ()) (.cons .same .nil)) (fun s1 => (db_nx (s := ()) (.cons .drop .nil))))) h
theorem ok_Deal_rows (F : FnP K "rows" "Deal.rows" s_Deal_rows f fd) (T : Txt K mg)
    (D_copied : DefAt P w K mg base "copied" 1 ["rows"] (spF (sp1 (aE K) (aE K) f_copied)))
    (D_check_field : DefAt P w K mg base "check_field" 1 ["field"] (spF (sp1 (aE K) (aE K) f_check_field))) : FnOk P w K mg base CX0 2 f fd ["self", "field"] (spF (sp2 (aDeal K) (aE K) (aE K) f_Deal_rows)) := by
  refine fnN_ok F sc_Deal_rows (fun As R h => by obtain ⟨v_self, v_field, c, rfl, _⟩ := h; rfl) (fun cdv A outer s H E hr => ?_)
  refine ⟨_, (pss_cons (ps_expr (pe_callD D_check_field (hr.mono (by decide)) (by rfl) (pa_cons (pv 1) pa_nil)))
    (pss_cons (ps_ret (pe_callD D_copied (hr.mono (by decide)) (by rfl) (pa_cons (pe_ix (ix_listK (K := K) rfl) (pe_fldK (K := K) rfl (pv 0) rfl) (pv 1) (fun _ _ => rfl)) pa_nil))) pss_nil)), fun H0 As R hS => ?_⟩
  obtain ⟨v_self, v_field, c, rfl, h, rfl⟩ := hS
  exact db_fin (B := fun (_ : Unit) => [.no, .no]) (show DB ⟨C0.W, K⟩ H0 [sl false ((aDeal K) v_self), sl false ((aE K) v_field)] _ (aE K) _ _ from (db_drop (dm_call1 bo_refl (dm_up (g := true) (dm_var (A := (aE K)) (f := false) (x := v_field) rfl))) (db_ret (dm_call1 bo_refl (dm_ix (dm_fld (Cl := cDeal K) (O := oDeal K) (B := (aE K)) (p := DealT.fields) (dm_var (A := (aDeal K)) (f := false) (x := v_self) rfl) T.c_Deal T.n_Deal_fields (fun _ => rfl)) (dm_up (g := true) (dm_var (A := (aE K)) (f := false) (x := v_field) rfl))))))) h
theorem ok_Deal_cards (F : FnP K "cards" "Deal.cards" s_Deal_cards f fd) (T : Txt K mg)
    (D_Deal_rows : MethAt P w K mg base (cDeal K) "rows" 2 ["self", "field"] (spF (sp2 (aDeal K) (aE K) (aE K) f_Deal_rows))) : FnOk P w K mg base CX0 3 f fd ["self", "field"] (spF (sp2 (aDeal K) (aE K) (aE K) f_Deal_cards)) := by
  refine fnN_ok F sc_Deal_cards (fun As R h => by obtain ⟨v_self, v_field, c, rfl, _⟩ := h; rfl) (fun cdv A outer s H E hr => ?_)
  refine ⟨_, (pss_cons (ps_ret (pe_lc2N (own := [("cards", 2), ("card", 3)]) (vs1 := [3]) (by rfl) sc_Deal_cards.nd (pi_listK (K := K) rfl (pe_methD (pv 0) D_Deal_rows (hr.mono (by decide)) (pa_cons (pv 1) pa_nil))) (blkOk_by (own := [("cards", 2), ("card", 3)]) (N := ["self", "field", "cards", "card"]) (sc := defScope s_Deal_cards) (by decide +kernel)) (by decide) (fun _ _ _ _ _ => (pg_name (i := 2) sc_Deal_cards.nd rfl (by first | exact Or.inl rfl | exact Or.inr rfl))) (fun _ _ _ _ _ => pts_nil) (fun _ _ _ _ _ => (pi_listK (K := K) rfl (pv 2))) (fun _ _ _ _ _ => (pg_name (i := 3) sc_Deal_cards.nd rfl (by first | exact Or.inl rfl | exact Or.inr rfl))) (fun _ _ _ _ _ => pts_nil) (fun _ _ _ _ _ => (pv 3)))) pss_nil), fun H0 As R hS => ?_⟩
  obtain ⟨v_self, v_field, c, rfl, h, rfl⟩ := hS
  exact db_fin (B := fun (_ : Unit) => [.no, .no, .no, .no]) (show DB ⟨C0.W, K⟩ H0 [sl false ((aDeal K) v_self), sl false ((aE K) v_field), .no, .no] _ (aE K) _ _ from (db_ret (dm_lcN (vs := [2, 3]) (dwm_list (dm_meth1 (Cl := cDeal K) (O := oDeal K) (dm_var (A := (aDeal K)) (f := false) (x := v_self) rfl) (dm_up (g := true) (dm_var (A := (aE K)) (f := false) (x := v_field) rfl)) (fun _ => rfl))) (fun x1 => dg_name) (fun x1 => rfl) (fun x1 => dtm_yes) (fun x1 => (dbm_out (vs := [3]) (dwm_list (dm_var (A := (aE K)) (f := true) (x := x1) rfl)) (fun x2 => dg_name) (fun x2 => rfl) (fun x2 => dtm_yes) (fun x2 => (dbm_in (dm_up (g := true) (dm_var (A := (aE K)) (f := true) (x := x2) rfl))))))))) h
theorem ok_check_row (F : FnP K "check_row" "check_row" s_check_row f fd) (T : Txt K mg)
    (D_Deal_rows : MethAt P w K mg base (cDeal K) "rows" 2 ["self", "field"] (spF (sp2 (aDeal K) (aE K) (aE K) f_Deal_rows))) : FnOk P w K mg base CX0 3 f fd ["deal", "field", "row"] (spF (sp3 (aDeal K) (aE K) (aE K) (aE K) f_check_row)) := by
  refine fnN_ok F sc_check_row (fun As R h => by obtain ⟨v_deal, v_field, v_row, c, rfl, _⟩ := h; rfl) (fun cdv A outer s H E hr => ?_)
  refine ⟨_, (pss_cons (ps_if (pt_not (pt_chain op_le op_lt pe_int (pv 2) (pe_callB (call_lenK (K := K) rfl) (by rfl) T.b_len (by decide +kernel) (pa_cons (pe_methD (pv 0) D_Deal_rows (hr.mono (by decide)) (pa_cons (pv 1) pa_nil)) pa_nil)))) (pss_cons ps_never pss_nil) pss_nil)
    pss_nil), fun H0 As R hS => ?_⟩
  obtain ⟨v_deal, v_field, v_row, c, rfl, h, rfl⟩ := hS
  exact db_finN (B := fun (_ : Unit) => [.no, .no, .no]) (show DB ⟨C0.W, K⟩ H0 [sl false ((aDeal K) v_deal), sl false ((aE K) v_field), sl false ((aE K) v_row)] _ (aE K) _ _ from (db_if (B1 := fun (s1 : Unit) => [sl false ((aDeal K) v_deal), sl false ((aE K) v_field), sl false ((aE K) v_row)]) (dtm_not (dtm_test (dm_chI (G := leI) (G' := ltI) (g := fun i j => decide (i ≤ j)) (g' := fun i j => decide (i < j)) dm_int (dm_up (g := true) (dm_var (A := (aE K)) (f := false) (x := v_row) rfl)) (dm_len (dm_meth1 (Cl := cDeal K) (O := oDeal K) (dm_var (A := (aDeal K)) (f := false) (x := v_deal) rfl) (dm_up (g := true) (dm_var (A := (aE K)) (f := false) (x := v_field) rfl)) (fun _ => rfl))) (fun _ _ => rfl) (fun _ _ => rfl)))) db_none (db_nx (s := ()) (.cons .same (.cons .same (.cons .same .nil)))) (fun s1 => (db_nx (s := ()) (.cons .drop (.cons .drop (.cons .drop .nil))))))) h
theorem ok_check_sweep (F : FnP K "check_sweep" "check_sweep" s_check_sweep f fd) (T : Txt K mg)
    (D_Deal_rows : MethAt P w K mg base (cDeal K) "rows" 2 ["self", "field"] (spF (sp2 (aDeal K) (aE K) (aE K) f_Deal_rows)))
    (D_check_row : DefAt P w K mg base "check_row" 3 ["deal", "field", "row"] (spF (sp3 (aDeal K) (aE K) (aE K) (aE K) f_check_row))) : FnOk P w K mg base CX0 4 f fd ["deal", "sweep"] (spF (sp2 (aDeal K) (aE K) (aE K) f_check_sweep)) := by
  refine fnN_ok F sc_check_sweep (fun As R h => by obtain ⟨v_deal, v_sweep, c, rfl, _⟩ := h; rfl) (fun cdv A outer s H E hr => ?_)
  refine ⟨_, (pss_cons (ps_asg (pv 1) (pg_tup rfl (pgs_cons (pg_name (i := 2) sc_check_sweep.nd rfl (by first | exact Or.inl rfl | exact Or.inr rfl)) (pgs_cons (pg_name (i := 3) sc_check_sweep.nd rfl (by first | exact Or.inl rfl | exact Or.inr rfl)) (pgs_cons (pg_name (i := 4) sc_check_sweep.nd rfl (by first | exact Or.inl rfl | exact Or.inr rfl)) (pgs_cons (pg_name (i := 5) sc_check_sweep.nd rfl (by first | exact Or.inl rfl | exact Or.inr rfl)) pgs_nil))))))
    (pss_cons (ps_expr (pe_callD D_check_row (hr.mono (by decide)) (by rfl) (pa_cons (pv 0) (pa_cons (pv 2) (pa_cons (pv 3) pa_nil)))))
    (pss_cons (ps_if (pt_not (pt_chain3 op_le op_le op_lt pe_int (pv 4) (pv 5) (pe_callB (call_lenK (K := K) rfl) (by rfl) T.b_len (by decide +kernel) (pa_cons (pe_ix (ix_listK (K := K) rfl) (pe_methD (pv 0) D_Deal_rows (hr.mono (by decide)) (pa_cons (pv 2) pa_nil)) (pv 3) (fun _ _ => rfl)) pa_nil)))) (pss_cons ps_never pss_nil) pss_nil)
    pss_nil))), fun H0 As R hS => ?_⟩
  obtain ⟨v_deal, v_sweep, c, rfl, h, rfl⟩ := hS
  exact db_finN (B := fun (_ : Unit) => [.no, .no, .no, .no, .no, .no]) (show DB ⟨C0.W, K⟩ H0 [sl false ((aDeal K) v_deal), sl false ((aE K) v_sweep), .no, .no, .no, .no] _ (aE K) _ _ from (db_tset (vs := [2, 3, 4, 5]) (dm_var (A := (aE K)) (f := false) (x := v_sweep) rfl) (fun x1 => (dg_t4 (dgs_cons dg_nm (dgs_cons dg_nm (dgs_cons dg_nm (dgs_cons dg_nm dgs_nil)))))) (fun x1 => (db_drop (dm_call3 bo_refl (dm_var (A := (aDeal K)) (f := false) (x := v_deal) rfl) (dm_up (g := true) (dm_var (A := (aE K)) (f := false) (x := x1.a) rfl)) (dm_up (g := true) (dm_var (A := (aE K)) (f := false) (x := x1.b) rfl))) (db_if (B1 := fun (s2 : Unit) => [sl false ((aDeal K) v_deal), sl false ((aE K) v_sweep), sl false ((aE K) x1.a), sl false ((aE K) x1.b), sl false ((aE K) x1.c), sl false ((aE K) x1.d)]) (dtm_not (dtm_test (dm_ch3I (G := leI) (G' := leI) (G'' := ltI) (g := fun i j => decide (i ≤ j)) (g' := fun i j => decide (i ≤ j)) (g'' := fun i j => decide (i < j)) dm_int (dm_up (g := true) (dm_var (A := (aE K)) (f := false) (x := x1.c) rfl)) (dm_up (g := true) (dm_var (A := (aE K)) (f := false) (x := x1.d) rfl)) (dm_len (dm_ix (dm_meth1 (Cl := cDeal K) (O := oDeal K) (dm_var (A := (aDeal K)) (f := false) (x := v_deal) rfl) (dm_up (g := true) (dm_var (A := (aE K)) (f := false) (x := x1.a) rfl)) (fun _ => rfl)) (dm_up (g := true) (dm_var (A := (aE K)) (f := false) (x := x1.b) rfl)))) (fun _ _ => rfl) (fun _ _ => rfl) (fun _ _ => rfl)))) db_none (db_nx (s := ()) (.cons .same (.cons .same (.cons .same (.cons .same (.cons .same (.cons .same .nil))))))) (fun s2 => (db_nx (s := ()) (.cons .drop (.cons .drop (.cons .drop (.cons .drop (.cons .drop (.cons .drop .nil))))))))))))) h
theorem ok_Deal_swept (F : FnP K "swept" "Deal.swept" s_Deal_swept f fd) (T : Txt K mg)
    (D_check_sweep : DefAt P w K mg base "check_sweep" 4 ["deal", "sweep"] (spF (sp2 (aDeal K) (aE K) (aE K) f_check_sweep))) : FnOk P w K mg base CX0 5 f fd ["self", "sweep"] (spF (sp2 (aDeal K) (aE K) (aE K) f_Deal_swept)) := by
  refine fnN_ok F sc_Deal_swept (fun As R h => by obtain ⟨v_self, v_sweep, c, rfl, _⟩ := h; rfl) (fun cdv A outer s H E hr => ?_)
  refine ⟨_, (pss_cons (ps_expr (pe_callD D_check_sweep (hr.mono (by decide)) (by rfl) (pa_cons (pv 0) (pa_cons (pv 1) pa_nil))))
    (pss_cons (ps_asg (pv 1) (pg_tup rfl (pgs_cons (pg_name (i := 2) sc_Deal_swept.nd rfl (by first | exact Or.inl rfl | exact Or.inr rfl)) (pgs_cons (pg_name (i := 3) sc_Deal_swept.nd rfl (by first | exact Or.inl rfl | exact Or.inr rfl)) (pgs_cons (pg_name (i := 4) sc_Deal_swept.nd rfl (by first | exact Or.inl rfl | exact Or.inr rfl)) (pgs_cons (pg_name (i := 5) sc_Deal_swept.nd rfl (by first | exact Or.inl rfl | exact Or.inr rfl)) pgs_nil))))))
    (pss_cons (ps_ret (pe_slice (sl_listK (K := K) rfl) (pe_ix (ix_listK (K := K) rfl) (pe_ix (ix_listK (K := K) rfl) (pe_fldK (K := K) rfl (pv 0) rfl) (pv 2) (fun _ _ => rfl)) (pv 3) (fun _ _ => rfl)) (po_some (pv 4)) (po_some (pe_op op_add (pv 5) pe_int)))) pss_nil))), fun H0 As R hS => ?_⟩
  obtain ⟨v_self, v_sweep, c, rfl, h, rfl⟩ := hS
  exact db_fin (B := fun (_ : Unit) => [.no, .no, .no, .no, .no, .no]) (show DB ⟨C0.W, K⟩ H0 [sl false ((aDeal K) v_self), sl false ((aE K) v_sweep), .no, .no, .no, .no] _ (aE K) _ _ from (db_drop (dm_call2 bo_refl (dm_var (A := (aDeal K)) (f := false) (x := v_self) rfl) (dm_var (A := (aE K)) (f := false) (x := v_sweep) rfl)) (db_tset (vs := [2, 3, 4, 5]) (dm_var (A := (aE K)) (f := false) (x := v_sweep) rfl) (fun x1 => (dg_t4 (dgs_cons dg_nm (dgs_cons dg_nm (dgs_cons dg_nm (dgs_cons dg_nm dgs_nil)))))) (fun x1 => (db_ret (dm_slF (dm_ix (dm_ix (dm_fld (Cl := cDeal K) (O := oDeal K) (B := (aE K)) (p := DealT.fields) (dm_var (A := (aDeal K)) (f := false) (x := v_self) rfl) T.c_Deal T.n_Deal_fields (fun _ => rfl)) (dm_up (g := true) (dm_var (A := (aE K)) (f := false) (x := x1.a) rfl))) (dm_up (g := true) (dm_var (A := (aE K)) (f := false) (x := x1.b) rfl))) (dom_so (dm_up (g := true) (dm_var (A := (aE K)) (f := false) (x := x1.c) rfl))) (dom_so (dm_add (dm_up (g := true) (dm_var (A := (aE K)) (f := false) (x := x1.d) rfl)) dm_int)))))))) h
theorem ok_check_field_x (F : FnP K "check_field" "check_field" s_check_field_x f fd) (T : Txt K mg) : FnOk P w K mg base (L2.CX P w) 1 f fd ["field"] (spX (sx1 K (aE K) (aE K) f_check_field_x)) := by
  refine fnX_ok F sc_check_field_x (fun As O h => by obtain ⟨v_field, o, rfl, _⟩ := h; rfl) (fun cdv A outer s H E hr => ?_)
  have tk := takes_def (P := P) (w := w) (K := K) (mg := mg) (base := base) (N := ["field"]) (qual := "check_field") (scope := defScope s_check_field_x) (f := f) (cd := cdv) (A := A) (outer := outer) (s := s) (H := H) (E := E)
  refine ⟨_, (pss_cons (ps_if (pt_not (pt_chain op_le op_le pe_int (pv 0) pe_int)) (pss_cons (ps_raiseX T.e_NoField rfl tk (by rfl)) pss_nil) pss_nil)
    pss_nil), fun H0 As O hS => ?_⟩
  obtain ⟨v_field, o, rfl, h, rfl⟩ := hS
  skip
  exact db_finXN (B := fun (_ : Unit) => [.no]) (show DB ⟨fun cls d _ H => E cls d H, K⟩ H0 [sl false ((aE K) v_field)] _ (aE K) _ _ from (db_if (B1 := fun (s1 : Unit) => [sl false ((aE K) v_field)]) (dtm_not (dtm_test (dm_chI (G := leI) (G' := leI) (g := fun i j => decide (i ≤ j)) (g' := fun i j => decide (i ≤ j)) dm_int (dm_up (g := true) (dm_var (A := (aE K)) (f := false) (x := v_field) rfl)) dm_int (fun _ _ => rfl) (fun _ _ => rfl)))) db_raise (db_nx (s := ()) (.cons .same .nil)) (fun s1 => (db_nx (s := ()) (.cons .drop .nil))))) h
theorem ok_Deal_rows_x (F : FnP K "rows" "Deal.rows" s_Deal_rows_x f fd) (T : Txt K mg)
    (D_copied : DefAt P w K mg base "copied" 1 ["rows"] (spF (sp1 (aE K) (aE K) f_copied)))
    (D_check_field_x : DefAtX P w K mg base "check_field" 1 ["field"] (spX (sx1 K (aE K) (aE K) f_check_field_x))) : FnOk P w K mg base (L2.CX P w) 2 f fd ["self", "field"] (spX (sx2 K (aDeal K) (aE K) (aE K) f_Deal_rows_x)) := by
  refine fnX_ok F sc_Deal_rows_x (fun As O h => by obtain ⟨v_self, v_field, o, rfl, _⟩ := h; rfl) (fun cdv A outer s H E hr => ?_)
  have tk := takes_def (P := P) (w := w) (K := K) (mg := mg) (base := base) (N := ["self", "field"]) (qual := "Deal.rows") (scope := defScope s_Deal_rows_x) (f := f) (cd := cdv) (A := A) (outer := outer) (s := s) (H := H) (E := E)
  refine ⟨_, (pss_cons (ps_expr (pe_callX D_check_field_x (hr.mono (by decide)) tk (by rfl) (pa_cons (pv 1) pa_nil)))
    (pss_cons (ps_ret (pe_callD D_copied (hr.mono (by decide)) (by rfl) (pa_cons (pe_ix (ix_listK (K := K) rfl) (pe_fldK (K := K) rfl (pv 0) rfl) (pv 1) (fun _ _ => rfl)) pa_nil))) pss_nil)), fun H0 As O hS => ?_⟩
  obtain ⟨v_self, v_field, o, rfl, h, rfl⟩ := hS
  refine ds_imp (N1 := fun _ => False) ?_ fun _ z => z.elim
  exact db_finX (B := fun (_ : Unit) => [.no, .no]) (show DB ⟨fun cls d _ H => E cls d H, K⟩ H0 [sl false ((aDeal K) v_self), sl false ((aE K) v_field)] _ (aE K) _ _ from (dbx_drop (dx_call1 bo_refl (dm_up (g := true) (dm_var (A := (aE K)) (f := false) (x := v_field) rfl))) (db_ret (dm_call1 bo_refl (dm_ix (dm_fld (Cl := cDeal K) (O := oDeal K) (B := (aE K)) (p := DealT.fields) (dm_var (A := (aDeal K)) (f := false) (x := v_self) rfl) T.c_Deal T.n_Deal_fields (fun _ => rfl)) (dm_up (g := true) (dm_var (A := (aE K)) (f := false) (x := v_field) rfl))))))) h
theorem ok_check_row_x (F : FnP K "check_row" "check_row" s_check_row_x f fd) (T : Txt K mg)
    (D_Deal_rows_x : MethAtX P w K mg base (cDeal K) "rows" 2 ["self", "field"] (spX (sx2 K (aDeal K) (aE K) (aE K) f_Deal_rows_x))) : FnOk P w K mg base (L2.CX P w) 3 f fd ["deal", "field", "row"] (spX (sx3 K (aDeal K) (aE K) (aE K) (aE K) f_check_row_x)) := by
  refine fnX_ok F sc_check_row_x (fun As O h => by obtain ⟨v_deal, v_field, v_row, o, rfl, _⟩ := h; rfl) (fun cdv A outer s H E hr => ?_)
  have tk := takes_def (P := P) (w := w) (K := K) (mg := mg) (base := base) (N := ["deal", "field", "row"]) (qual := "check_row") (scope := defScope s_check_row_x) (f := f) (cd := cdv) (A := A) (outer := outer) (s := s) (H := H) (E := E)
  refine ⟨_, (pss_cons (ps_if (pt_not (pt_chain op_le op_lt pe_int (pv 2) (pe_callB (call_lenK (K := K) rfl) (by rfl) T.b_len (by decide +kernel) (pa_cons (pe_methX (pv 0) D_Deal_rows_x (hr.mono (by decide)) tk (pa_cons (pv 1) pa_nil)) pa_nil)))) (pss_cons (ps_raiseX T.e_NoField rfl tk (by rfl)) pss_nil) pss_nil)
    pss_nil), fun H0 As O hS => ?_⟩
  obtain ⟨v_deal, v_field, v_row, o, rfl, h, rfl⟩ := hS
  skip
  exact db_finXN (B := fun (_ : Unit) => [.no, .no, .no]) (show DB ⟨fun cls d _ H => E cls d H, K⟩ H0 [sl false ((aDeal K) v_deal), sl false ((aE K) v_field), sl false ((aE K) v_row)] _ (aE K) _ _ from (dbx_if (B1 := fun (s1 : Unit) => [sl false ((aDeal K) v_deal), sl false ((aE K) v_field), sl false ((aE K) v_row)]) (dtx_not (dtx_test (dx_chX (g := fun i j => decide (i ≤ j)) (g' := fun i j => decide (i < j)) dm_int (dm_up (g := true) (dm_var (A := (aE K)) (f := false) (x := v_row) rfl)) (dx_ctx (dx_meth1 (C := cDeal K) (O := oDeal K) (dm_var (A := (aDeal K)) (f := false) (x := v_deal) rfl) (dm_up (g := true) (dm_var (A := (aE K)) (f := false) (x := v_field) rfl)) (fun _ => rfl)) (fun mz hz => (dm_len hz)) (fun Y hy => (re_lenc hy)))))) db_raise (db_nx (s := ()) (.cons .same (.cons .same (.cons .same .nil)))) (fun s1 => (db_nx (s := ()) (.cons .drop (.cons .drop (.cons .drop .nil))))))) h
theorem ok_check_sweep_x (F : FnP K "check_sweep" "check_sweep" s_check_sweep_x f fd) (T : Txt K mg)
    (D_Deal_rows : MethAt P w K mg base (cDeal K) "rows" 2 ["self", "field"] (spF (sp2 (aDeal K) (aE K) (aE K) f_Deal_rows)))
    (D_check_row_x : DefAtX P w K mg base "check_row" 3 ["deal", "field", "row"] (spX (sx3 K (aDeal K) (aE K) (aE K) (aE K) f_check_row_x))) : FnOk P w K mg base (L2.CX P w) 4 f fd ["deal", "sweep"] (spX (sx2 K (aDeal K) (aE K) (aE K) f_check_sweep_x)) := by
  refine fnX_ok F sc_check_sweep_x (fun As O h => by obtain ⟨v_deal, v_sweep, o, rfl, _⟩ := h; rfl) (fun cdv A outer s H E hr => ?_)
  have tk := takes_def (P := P) (w := w) (K := K) (mg := mg) (base := base) (N := ["deal", "sweep", "field", "row", "first", "last"]) (qual := "check_sweep") (scope := defScope s_check_sweep_x) (f := f) (cd := cdv) (A := A) (outer := outer) (s := s) (H := H) (E := E)
  refine ⟨_, (pss_cons (ps_asg (pv 1) (pg_tup rfl (pgs_cons (pg_name (i := 2) sc_check_sweep_x.nd rfl (by first | exact Or.inl rfl | exact Or.inr rfl)) (pgs_cons (pg_name (i := 3) sc_check_sweep_x.nd rfl (by first | exact Or.inl rfl | exact Or.inr rfl)) (pgs_cons (pg_name (i := 4) sc_check_sweep_x.nd rfl (by first | exact Or.inl rfl | exact Or.inr rfl)) (pgs_cons (pg_name (i := 5) sc_check_sweep_x.nd rfl (by first | exact Or.inl rfl | exact Or.inr rfl)) pgs_nil))))))
    (pss_cons (ps_expr (pe_callX D_check_row_x (hr.mono (by decide)) tk (by rfl) (pa_cons (pv 0) (pa_cons (pv 2) (pa_cons (pv 3) pa_nil)))))
    (pss_cons (ps_if (pt_not (pt_chain3 op_le op_le op_lt pe_int (pv 4) (pv 5) (pe_callB (call_lenK (K := K) rfl) (by rfl) T.b_len (by decide +kernel) (pa_cons (pe_ix (ix_listK (K := K) rfl) (pe_methD (pv 0) D_Deal_rows (hr.mono (by decide)) (pa_cons (pv 2) pa_nil)) (pv 3) (fun _ _ => rfl)) pa_nil)))) (pss_cons (ps_raiseX T.e_NoCard rfl tk (by rfl)) pss_nil) pss_nil)
    pss_nil))), fun H0 As O hS => ?_⟩
  obtain ⟨v_deal, v_sweep, o, rfl, h, rfl⟩ := hS
  skip
  exact db_finXN (B := fun (_ : Unit) => [.no, .no, .no, .no, .no, .no]) (show DB ⟨fun cls d _ H => E cls d H, K⟩ H0 [sl false ((aDeal K) v_deal), sl false ((aE K) v_sweep), .no, .no, .no, .no] _ (aE K) _ _ from (db_tset (vs := [2, 3, 4, 5]) (dm_var (A := (aE K)) (f := false) (x := v_sweep) rfl) (fun x1 => (dg_t4 (dgs_cons dg_nm (dgs_cons dg_nm (dgs_cons dg_nm (dgs_cons dg_nm dgs_nil)))))) (fun x1 => (dbx_drop (dx_call3 bo_refl (dm_var (A := (aDeal K)) (f := false) (x := v_deal) rfl) (dm_up (g := true) (dm_var (A := (aE K)) (f := false) (x := x1.a) rfl)) (dm_up (g := true) (dm_var (A := (aE K)) (f := false) (x := x1.b) rfl))) (db_if (B1 := fun (s2 : Unit) => [sl false ((aDeal K) v_deal), sl false ((aE K) v_sweep), sl false ((aE K) x1.a), sl false ((aE K) x1.b), sl false ((aE K) x1.c), sl false ((aE K) x1.d)]) (dtm_not (dtm_test (dm_ch3I (G := leI) (G' := leI) (G'' := ltI) (g := fun i j => decide (i ≤ j)) (g' := fun i j => decide (i ≤ j)) (g'' := fun i j => decide (i < j)) dm_int (dm_up (g := true) (dm_var (A := (aE K)) (f := false) (x := x1.c) rfl)) (dm_up (g := true) (dm_var (A := (aE K)) (f := false) (x := x1.d) rfl)) (dm_len (dm_ix (dm_meth1 (Cl := cDeal K) (O := oDeal K) (dm_var (A := (aDeal K)) (f := false) (x := v_deal) rfl) (dm_up (g := true) (dm_var (A := (aE K)) (f := false) (x := x1.a) rfl)) (fun _ => rfl)) (dm_up (g := true) (dm_var (A := (aE K)) (f := false) (x := x1.b) rfl)))) (fun _ _ => rfl) (fun _ _ => rfl) (fun _ _ => rfl)))) db_raise (db_nx (s := ()) (.cons .same (.cons .same (.cons .same (.cons .same (.cons .same (.cons .same .nil))))))) (fun s2 => (db_nx (s := ()) (.cons .drop (.cons .drop (.cons .drop (.cons .drop (.cons .drop (.cons .drop .nil))))))))))))) h
theorem ok_Deal_swept_x (F : FnP K "swept" "Deal.swept" s_Deal_swept_x f fd) (T : Txt K mg)
    (D_check_sweep_x : DefAtX P w K mg base "check_sweep" 4 ["deal", "sweep"] (spX (sx2 K (aDeal K) (aE K) (aE K) f_check_sweep_x))) : FnOk P w K mg base (L2.CX P w) 5 f fd ["self", "sweep"] (spX (sx2 K (aDeal K) (aE K) (aEo K) f_Deal_swept_x)) := by
  refine fnX_ok F sc_Deal_swept_x (fun As O h => by obtain ⟨v_self, v_sweep, o, rfl, _⟩ := h; rfl) (fun cdv A outer s H E hr => ?_)
  have tk := takes_def (P := P) (w := w) (K := K) (mg := mg) (base := base) (N := ["self", "sweep", "field", "row", "first", "last"]) (qual := "Deal.swept") (scope := defScope s_Deal_swept_x) (f := f) (cd := cdv) (A := A) (outer := outer) (s := s) (H := H) (E := E)
  refine ⟨_, (pss_cons (ps_expr (pe_callX D_check_sweep_x (hr.mono (by decide)) tk (by rfl) (pa_cons (pv 0) (pa_cons (pv 1) pa_nil))))
    (pss_cons (ps_asg (pv 1) (pg_tup rfl (pgs_cons (pg_name (i := 2) sc_Deal_swept_x.nd rfl (by first | exact Or.inl rfl | exact Or.inr rfl)) (pgs_cons (pg_name (i := 3) sc_Deal_swept_x.nd rfl (by first | exact Or.inl rfl | exact Or.inr rfl)) (pgs_cons (pg_name (i := 4) sc_Deal_swept_x.nd rfl (by first | exact Or.inl rfl | exact Or.inr rfl)) (pgs_cons (pg_name (i := 5) sc_Deal_swept_x.nd rfl (by first | exact Or.inl rfl | exact Or.inr rfl)) pgs_nil))))))
    (pss_cons (ps_ret (pe_slice (sl_listK (K := K) rfl) (pe_ix (ix_listK (K := K) rfl) (pe_ix (ix_listK (K := K) rfl) (pe_fldK (K := K) rfl (pv 0) rfl) (pv 2) (fun _ _ => rfl)) (pv 3) (fun _ _ => rfl)) (po_some (pv 4)) (po_some (pe_op op_add (pv 5) pe_int)))) pss_nil))), fun H0 As O hS => ?_⟩
  obtain ⟨v_self, v_sweep, o, rfl, h, rfl⟩ := hS
  refine ds_imp (N1 := fun _ => False) ?_ fun _ z => z.elim
  exact db_finX (B := fun (_ : Unit) => [.no, .no, .no, .no, .no, .no]) (show DB ⟨fun cls d _ H => E cls d H, K⟩ H0 [sl false ((aDeal K) v_self), sl false ((aE K) v_sweep), .no, .no, .no, .no] _ (aEo K) _ _ from (dbx_drop (dx_call2 bo_refl (dm_var (A := (aDeal K)) (f := false) (x := v_self) rfl) (dm_var (A := (aE K)) (f := false) (x := v_sweep) rfl)) (db_tset (vs := [2, 3, 4, 5]) (dm_var (A := (aE K)) (f := false) (x := v_sweep) rfl) (fun x1 => (dg_t4 (dgs_cons dg_nm (dgs_cons dg_nm (dgs_cons dg_nm (dgs_cons dg_nm dgs_nil)))))) (fun x1 => (db_ret (dm_own (dmo_slF (dm_ix (dm_ix (dm_fld (Cl := cDeal K) (O := oDeal K) (B := (aE K)) (p := DealT.fields) (dm_var (A := (aDeal K)) (f := false) (x := v_self) rfl) T.c_Deal T.n_Deal_fields (fun _ => rfl)) (dm_up (g := true) (dm_var (A := (aE K)) (f := false) (x := x1.a) rfl))) (dm_up (g := true) (dm_var (A := (aE K)) (f := false) (x := x1.b) rfl))) (dom_so (dm_up (g := true) (dm_var (A := (aE K)) (f := false) (x := x1.c) rfl))) (dom_so (dm_add (dm_up (g := true) (dm_var (A := (aE K)) (f := false) (x := x1.d) rfl)) dm_int))))))))) h
theorem ok_law_fields (F : FnP K "_law_fields" "_law_fields" s_law_fields f fd) (T : Txt K mg) : FnOk P w K mg base CX0 1 f fd ["_law_many", "_law_d"] (spF (sp2 (aE K) (aE K) (aE K) f_law_fields)) := by
  refine fnN_ok F sc_law_fields (fun As R h => by obtain ⟨a, b, c, rfl, _⟩ := h; rfl) (fun cdv A outer s H E hr => ?_)
  refine ⟨fieldsT K, (pss_cons (ps_set (i := 2) sc_law_fields.nd rfl (by first | exact Or.inl rfl | exact Or.inr rfl) (pe_lst (pa_cons (pe_lc (own := [("_law_k", 3)]) (g := (gName 3)) (by rfl) sc_law_fields.nd (pi_range1 (by rfl) T.b_range (pa_cons (pe_op op_add pe_int (pe_op op_mod (pe_ix (ix_listK (K := K) rfl) (pv 1) pe_int (fun _ _ => rfl)) pe_int)) pa_nil)) (blkOk_by (own := [("_law_k", 3)]) (N := ["_law_many", "_law_d", "_law_rows", "_law_k", "_law_verse_here", "_law_draw", "_law_home", "_law_row"]) (sc := defScope s_law_fields) (by decide +kernel)) (fun _ _ _ _ _ => (pg_name (i := 3) sc_law_fields.nd rfl (by first | exact Or.inl rfl | exact Or.inr rfl))) (fun _ _ _ _ _ => pts_nil) (fun _ _ _ _ _ => (pe_lst pa_nil))) (pa_cons (pe_lc (own := [("_law_k", 3)]) (g := (gName 3)) (by rfl) sc_law_fields.nd (pi_range1 (by rfl) T.b_range (pa_cons (pe_op op_add pe_int (pe_op op_mod (pe_ix (ix_listK (K := K) rfl) (pv 1) pe_int (fun _ _ => rfl)) pe_int)) pa_nil)) (blkOk_by (own := [("_law_k", 3)]) (N := ["_law_many", "_law_d", "_law_rows", "_law_k", "_law_verse_here", "_law_draw", "_law_home", "_law_row"]) (sc := defScope s_law_fields) (by decide +kernel)) (fun _ _ _ _ _ => (pg_name (i := 3) sc_law_fields.nd rfl (by first | exact Or.inl rfl | exact Or.inr rfl))) (fun _ _ _ _ _ => pts_nil) (fun _ _ _ _ _ => (pe_lst pa_nil))) pa_nil)))) (pss_cons (ps_for PassesOwn.never rfl (pi_range1 (by rfl) T.b_range (pa_cons (pv 0) pa_nil)) (pg_name (i := 4) sc_law_fields.nd rfl (by first | exact Or.inl rfl | exact Or.inr rfl)) (pss_cons (ps_set (i := 5) sc_law_fields.nd rfl (by first | exact Or.inl rfl | exact Or.inr rfl) (pe_ix (ix_listK (K := K) rfl) (pv 1) (pe_op op_add pe_int (pv 4)) (fun _ _ => rfl))) (pss_cons (ps_set (i := 6) sc_law_fields.nd rfl (by first | exact Or.inl rfl | exact Or.inr rfl) (pe_ix (ix_listK (K := K) rfl) (pe_lst (pa_cons (pe_op op_fdiv (pe_op op_mod (pv 5) pe_int) pe_int) (pa_cons (pe_op op_fdiv (pe_op op_mod (pv 5) pe_int) pe_int) (pa_cons (pe_ix (ix_listK (K := K) rfl) (pe_lst (pa_cons pe_int (pa_cons pe_int (pa_cons pe_int (pa_cons pe_int (pa_cons pe_int (pa_cons pe_int (pa_cons pe_int pa_nil)))))))) (pe_op op_mod (pv 5) pe_int) (fun _ _ => rfl)) pa_nil)))) (pe_op op_mod (pe_ix (ix_listK (K := K) rfl) (pv 1) pe_int (fun _ _ => rfl)) pe_int) (fun _ _ => rfl))) (pss_cons (ps_if (pt_cmpR op_lt (pv 6) pe_int (nomark _)) (pss_cons (ps_set (i := 7) sc_law_fields.nd rfl (by first | exact Or.inl rfl | exact Or.inr rfl) (pe_ix (ix_listK (K := K) rfl) (pe_ix (ix_listK (K := K) rfl) (pv 2) (pv 6) (fun _ _ => rfl)) (pe_op op_mod (pe_op op_fdiv (pv 5) pe_int) (pe_callB (call_lenK (K := K) rfl) (by rfl) T.b_len (by decide +kernel) (pa_cons (pe_ix (ix_listK (K := K) rfl) (pv 2) (pv 6) (fun _ _ => rfl)) pa_nil))) (fun _ _ => rfl))) (pss_cons (ps_if (pt_cmpR op_lt (pe_callB (call_lenK (K := K) rfl) (by rfl) T.b_len (by decide +kernel) (pa_cons (pv 7) pa_nil)) pe_int (nomark _)) (pss_cons (ps_expr (pe_bm PySem.F.plainAttrs_list PySem.F.slot_list_insert PySem.F.type_list_insert mt_insert (pv 7) (pa_cons (pe_op op_mod (pe_op op_fdiv (pv 5) pe_int) (pe_op op_add (pe_callB (call_lenK (K := K) rfl) (by rfl) T.b_len (by decide +kernel) (pa_cons (pv 7) pa_nil)) pe_int)) (pa_cons (pv 4) pa_nil)))) pss_nil) pss_nil) pss_nil)) pss_nil) pss_nil)))) (pss_cons (ps_ret (pv 2)) pss_nil))), fun H0 As R hS => ?_⟩
  obtain ⟨a, b, c, rfl, h, rfl⟩ := hS
  unfold f_law_fields at h
  split at h
  · rename_i hb
    cases h
    exact ds_imp (fields_ds hb.1 hb.2.1 hb.2.2) fun _ z => z.elim
  · cases h
theorem ok_law_made (F : FnP K "_law_made" "_law_made" s_law_made f fd) (T : Txt K mg)
    (D_law_copy_I : DefAt P w K mg base "_law_copy" 1 ["_law_rows"] (spF (sp1 (aE K) (aE K) f_law_copy_I)))
    (D_Deal___init__ : MkAt P w K mg base "Deal" (cDeal K) 3 ["self", "book", "zero", "one"] (spIR (si3 (aBook K) (aE K) (aE K) (oDeal K) f_Deal___init__) (cDeal K))) : FnOk P w K mg base CX0 5 f fd ["_law_book_here", "_law_rows"] (spR (sp2 (aBook K) (aE K) (aDeal K) f_law_made)) := by
  refine fnR_ok F sc_law_made (fun As R h => by obtain ⟨v_law_book_here, v_law_rows, c, rfl, _⟩ := h; rfl) (fun cdv A outer s H E hr => ?_)
  refine ⟨_, (pss_cons (ps_ret (pe_mkD D_Deal___init__ (hr.mono (by decide)) (by rfl) (pa_cons (pv 0) (pa_cons (pe_callD D_law_copy_I (hr.mono (by decide)) (by rfl) (pa_cons (pe_ix (ix_listK (K := K) rfl) (pv 1) pe_int (fun _ _ => rfl)) pa_nil)) (pa_cons (pe_callD D_law_copy_I (hr.mono (by decide)) (by rfl) (pa_cons (pe_ix (ix_listK (K := K) rfl) (pv 1) pe_int (fun _ _ => rfl)) pa_nil)) pa_nil))))) pss_nil), fun H0 As R hS => ?_⟩
  obtain ⟨v_law_book_here, v_law_rows, c, rfl, h, rfl⟩ := hS
  exact db_fin (B := fun (_ : Unit) => [.no, .no]) (show DB ⟨C0.W, K⟩ H0 [sl true ((aBook K) v_law_book_here), sl true ((aE K) v_law_rows)] _ (aDeal K) _ _ from (db_ret (dm_makeR3 (C := cDeal K) (O := oDeal K) (dm_var (A := (aBook K)) (f := true) (x := v_law_book_here) rfl) (dm_call1 bo_refl (dm_ix (dm_var (A := (aE K)) (f := true) (x := v_law_rows) rfl) dm_int)) (dm_call1 bo_refl (dm_ix (dm_var (A := (aE K)) (f := true) (x := v_law_rows) rfl) dm_int))))) h
theorem ok_law_sweeps (F : FnP K "_law_sweeps" "_law_sweeps" s_law_sweeps f fd) (T : Txt K mg) : FnOk P w K mg base CX0 1 f fd ["_law_rows"] (spF (sp1 (aE K) (aE K) f_law_sweeps)) := by
  refine fnN_ok F sc_law_sweeps (fun As R h => by obtain ⟨v_law_rows, c, rfl, _⟩ := h; rfl) (fun cdv A outer s H E hr => ?_)
  refine ⟨_, (pss_cons (ps_set (i := 1) sc_law_sweeps.nd rfl (by first | exact Or.inl rfl | exact Or.inr rfl) (pe_lst pa_nil))
    (pss_cons (ps_for PassesOwn.never rfl (pi_range1 (by rfl) T.b_range (pa_cons pe_int pa_nil)) (pg_name (i := 2) sc_law_sweeps.nd rfl (by first | exact Or.inl rfl | exact Or.inr rfl)) (pss_cons (ps_for PassesOwn.never rfl (pi_enumK (K := K) rfl (by rfl) T.b_enumerate (pa_cons (pe_ix (ix_listK (K := K) rfl) (pv 0) (pv 2) (fun _ _ => rfl)) pa_nil)) (pg_tup rfl (pgs_cons (pg_name (i := 3) sc_law_sweeps.nd rfl (by first | exact Or.inl rfl | exact Or.inr rfl)) (pgs_cons (pg_name (i := 4) sc_law_sweeps.nd rfl (by first | exact Or.inl rfl | exact Or.inr rfl)) pgs_nil))) (pss_cons (ps_for PassesOwn.never rfl (pi_range1 (by rfl) T.b_range (pa_cons (pe_callB (call_lenK (K := K) rfl) (by rfl) T.b_len (by decide +kernel) (pa_cons (pv 4) pa_nil)) pa_nil)) (pg_name (i := 5) sc_law_sweeps.nd rfl (by first | exact Or.inl rfl | exact Or.inr rfl)) (pss_cons (ps_set (i := 1) sc_law_sweeps.nd rfl (by first | exact Or.inl rfl | exact Or.inr rfl) (pe_op (op_catK (K := K) rfl) (pv 1) (pe_lc (own := [("_law_last", 6)]) (g := (gName 6)) (by rfl) sc_law_sweeps.nd (pi_range2 (by rfl) T.b_range (pa_cons (pv 5) (pa_cons (pe_callB (call_lenK (K := K) rfl) (by rfl) T.b_len (by decide +kernel) (pa_cons (pv 4) pa_nil)) pa_nil))) (blkOk_by (own := [("_law_last", 6)]) (N := ["_law_rows", "_law_found", "_law_field", "_law_row", "_law_cards", "_law_first", "_law_last"]) (sc := defScope s_law_sweeps) (by decide +kernel)) (fun _ _ _ _ _ => (pg_name (i := 6) sc_law_sweeps.nd rfl (by first | exact Or.inl rfl | exact Or.inr rfl))) (fun _ _ _ _ _ => pts_nil) (fun _ _ _ _ _ => (pe_tup (pa_cons (pv 2) (pa_cons (pv 3) (pa_cons (pv 5) (pa_cons (pv 6) pa_nil)))))))))
    pss_nil))
    pss_nil))
    pss_nil))
    (pss_cons (ps_ret (pv 1)) pss_nil))), fun H0 As R hS => ?_⟩
  obtain ⟨v_law_rows, c, rfl, h, rfl⟩ := hS
  exact db_fin (B := fun (_ : Unit) => [.no, .no, .no, .no, .no, .no, .no]) (show DB ⟨C0.W, K⟩ H0 [sl false ((aE K) v_law_rows), .no, .no, .no, .no, .no, .no] _ (aE K) _ _ from (db_set (i := 1) (f := true) (Ax := (aE K)) (dm_lst (f := true) (dam_nil (α := (P4 Int Int Int Int)))) (fun v_law_found => (db_for (vs := [2]) (B1 := fun (s1 : (List (P4 Int Int Int Int))) => [sl false ((aE K) v_law_rows), sl true ((aE K) s1), .no, .no, .no, .no, .no]) (s0 := v_law_found) (dwm_rng1 dm_int) (.cons .same (.cons .same (.cons .drop (.cons .drop (.cons .drop (.cons .drop (.cons .drop .nil))))))) (fun x2 s1 => dg_name) (fun x2 s1 => (db_for (vs := [3, 4]) (B1 := fun (s13 : (List (P4 Int Int Int Int))) => [sl false ((aE K) v_law_rows), sl true ((aE K) s13), sl true ((aE K) x2), .no, .no, .no, .no]) (s0 := s1) (dwm_enum (dm_ix (dm_var (A := (aE K)) (f := false) (x := v_law_rows) rfl) (dm_up (g := true) (dm_var (A := (aE K)) (f := true) (x := x2) rfl)))) (.cons .same (.cons .same (.cons .same (.cons .drop (.cons .drop (.cons .drop (.cons .drop .nil))))))) (fun x14 s13 => (dg_t2 (dgs_cons dg_nm (dgs_cons dg_nm dgs_nil)))) (fun x14 s13 => (db_for (vs := [5]) (B1 := fun (s19 : (List (P4 Int Int Int Int))) => [sl false ((aE K) v_law_rows), sl true ((aE K) s19), sl true ((aE K) x2), sl false ((aE K) x14.a), sl false ((aE K) x14.b), .no, .no]) (s0 := s13) (dwm_rng1 (dm_len (dm_var (A := (aE K)) (f := false) (x := x14.b) rfl))) (.cons .same (.cons .same (.cons .same (.cons .same (.cons .same (.cons .drop (.cons .drop .nil))))))) (fun x20 s19 => dg_name) (fun x20 s19 => (db_set (i := 1) (f := true) (Ax := (aE K)) (dm_cat (dm_var (A := (aE K)) (f := true) (x := s19) rfl) (dm_lc (vs := [6]) (dwm_rng2 (dm_up (g := true) (dm_var (A := (aE K)) (f := true) (x := x20) rfl)) (dm_len (dm_var (A := (aE K)) (f := false) (x := x14.b) rfl))) (fun x22 => dg_name) (fun x22 => dtm_yes) (fun x22 => (dm_tup4 (dm_up (g := true) (dm_var (A := (aE K)) (f := true) (x := x2) rfl)) (dm_up (g := true) (dm_var (A := (aE K)) (f := false) (x := x14.a) rfl)) (dm_up (g := true) (dm_var (A := (aE K)) (f := true) (x := x20) rfl)) (dm_up (g := true) (dm_var (A := (aE K)) (f := true) (x := x22) rfl)))))) (fun v_law_found => (db_nx (s := v_law_found) (.cons .same (.cons .same (.cons .same (.cons .same (.cons .same (.cons .drop (.cons .drop .nil))))))))))) (fun s19 => (db_nx (s := s19) (.cons .same (.cons .same (.cons .same (.cons .drop (.cons .drop (.cons .drop (.cons .drop .nil))))))))))) (fun s13 => (db_nx (s := s13) (.cons .same (.cons .same (.cons .drop (.cons .drop (.cons .drop (.cons .drop (.cons .drop .nil))))))))))) (fun s1 => (db_ret (dm_var (A := (aE K)) (f := true) (x := s1) rfl))))))) h
theorem ok_law_touched (F : FnP K "_law_touched" "_law_touched" s_law_touched f fd) (T : Txt K mg) : FnOk P w K mg base CX0 1 f fd ["_law_rows", "_law_sweep"] (spF (sp2 (aE K) (aE K) (aE K) f_law_touched)) := by
  refine fnN_ok F sc_law_touched (fun As R h => by obtain ⟨v_law_rows, v_law_sweep, c, rfl, _⟩ := h; rfl) (fun cdv A outer s H E hr => ?_)
  refine ⟨_, (pss_cons (ps_ret (pe_slice (sl_listK (K := K) rfl) (pe_ix (ix_listK (K := K) rfl) (pe_ix (ix_listK (K := K) rfl) (pv 0) (pe_ix (ix_tupK (K := K) rfl) (pv 1) pe_int (fun _ _ => rfl)) (fun _ _ => rfl)) (pe_ix (ix_tupK (K := K) rfl) (pv 1) pe_int (fun _ _ => rfl)) (fun _ _ => rfl)) (po_some (pe_ix (ix_tupK (K := K) rfl) (pv 1) pe_int (fun _ _ => rfl))) (po_some (pe_op op_add (pe_ix (ix_tupK (K := K) rfl) (pv 1) pe_int (fun _ _ => rfl)) pe_int)))) pss_nil), fun H0 As R hS => ?_⟩
  obtain ⟨v_law_rows, v_law_sweep, c, rfl, h, rfl⟩ := hS
  exact db_fin (B := fun (_ : Unit) => [.no, .no]) (show DB ⟨C0.W, K⟩ H0 [sl false ((aE K) v_law_rows), sl false ((aE K) v_law_sweep)] _ (aE K) _ _ from (db_ret (dm_slF (dm_ix (dm_ix (dm_var (A := (aE K)) (f := false) (x := v_law_rows) rfl) (dm_up (g := true) (dm_ixT4a (dm_var (A := (aE K)) (f := false) (x := v_law_sweep) rfl)))) (dm_up (g := true) (dm_ixT4b (dm_var (A := (aE K)) (f := false) (x := v_law_sweep) rfl)))) (dom_so (dm_up (g := true) (dm_ixT4c (dm_var (A := (aE K)) (f := false) (x := v_law_sweep) rfl)))) (dom_so (dm_add (dm_up (g := true) (dm_ixT4d (dm_var (A := (aE K)) (f := false) (x := v_law_sweep) rfl))) dm_int))))) h
theorem ok_law_sweep_bad (F : FnP K "_law_sweep_bad" "_law_sweep_bad" s_law_sweep_bad f fd) (T : Txt K mg) : FnOk P w K mg base CX0 1 f fd ["_law_rows", "_law_sweep"] (spF (sp2 (aE K) (aE K) (aE K) f_law_sweep_bad)) := by
  refine fnN_ok F sc_law_sweep_bad (fun As R h => by obtain ⟨v_law_rows, v_law_sweep, c, rfl, _⟩ := h; rfl) (fun cdv A outer s H E hr => ?_)
  refine ⟨_, (pss_cons (ps_if (PW.pt (pw_or (pt_not (pt_chain op_le op_le pe_int (pe_ix (ix_tupK (K := K) rfl) (pv 1) pe_int (fun _ _ => rfl)) pe_int)) (pw_or1 (pt_not (pt_chain op_le op_lt pe_int (pe_ix (ix_tupK (K := K) rfl) (pv 1) pe_int (fun _ _ => rfl)) (pe_callB (call_lenK (K := K) rfl) (by rfl) T.b_len (by decide +kernel) (pa_cons (pe_ix (ix_listK (K := K) rfl) (pv 0) (pe_ix (ix_tupK (K := K) rfl) (pv 1) pe_int (fun _ _ => rfl)) (fun _ _ => rfl)) pa_nil))))))) (pss_cons (ps_ret pe_str) pss_nil) pss_nil)
    (pss_cons (ps_if (pt_not (pt_chain3 op_le op_le op_lt pe_int (pe_ix (ix_tupK (K := K) rfl) (pv 1) pe_int (fun _ _ => rfl)) (pe_ix (ix_tupK (K := K) rfl) (pv 1) pe_int (fun _ _ => rfl)) (pe_callB (call_lenK (K := K) rfl) (by rfl) T.b_len (by decide +kernel) (pa_cons (pe_ix (ix_listK (K := K) rfl) (pe_ix (ix_listK (K := K) rfl) (pv 0) (pe_ix (ix_tupK (K := K) rfl) (pv 1) pe_int (fun _ _ => rfl)) (fun _ _ => rfl)) (pe_ix (ix_tupK (K := K) rfl) (pv 1) pe_int (fun _ _ => rfl)) (fun _ _ => rfl)) pa_nil)))) (pss_cons (ps_ret pe_str) pss_nil) pss_nil)
    (pss_cons (ps_ret pe_str) pss_nil))), fun H0 As R hS => ?_⟩
  obtain ⟨v_law_rows, v_law_sweep, c, rfl, h, rfl⟩ := hS
  exact db_fin (B := fun (_ : Unit) => [.no, .no]) (show DB ⟨C0.W, K⟩ H0 [sl false ((aE K) v_law_rows), sl false ((aE K) v_law_sweep)] _ (aE K) _ _ from (db_if (B1 := fun (s1 : Unit) => [sl false ((aE K) v_law_rows), sl false ((aE K) v_law_sweep)]) (dtm_or (dtm_not (dtm_test (dm_chI (G := leI) (G' := leI) (g := fun i j => decide (i ≤ j)) (g' := fun i j => decide (i ≤ j)) dm_int (dm_up (g := true) (dm_ixT4a (dm_var (A := (aE K)) (f := false) (x := v_law_sweep) rfl))) dm_int (fun _ _ => rfl) (fun _ _ => rfl)))) (dtm_not (dtm_test (dm_chI (G := leI) (G' := ltI) (g := fun i j => decide (i ≤ j)) (g' := fun i j => decide (i < j)) dm_int (dm_up (g := true) (dm_ixT4b (dm_var (A := (aE K)) (f := false) (x := v_law_sweep) rfl))) (dm_len (dm_ix (dm_var (A := (aE K)) (f := false) (x := v_law_rows) rfl) (dm_up (g := true) (dm_ixT4a (dm_var (A := (aE K)) (f := false) (x := v_law_sweep) rfl))))) (fun _ _ => rfl) (fun _ _ => rfl))))) (db_ret dm_str) (db_nx (s := ()) (.cons .same (.cons .same .nil))) (fun s1 => (db_if (B1 := fun (s2 : Unit) => [sl false ((aE K) v_law_rows), sl false ((aE K) v_law_sweep)]) (dtm_not (dtm_test (dm_ch3I (G := leI) (G' := leI) (G'' := ltI) (g := fun i j => decide (i ≤ j)) (g' := fun i j => decide (i ≤ j)) (g'' := fun i j => decide (i < j)) dm_int (dm_up (g := true) (dm_ixT4c (dm_var (A := (aE K)) (f := false) (x := v_law_sweep) rfl))) (dm_up (g := true) (dm_ixT4d (dm_var (A := (aE K)) (f := false) (x := v_law_sweep) rfl))) (dm_len (dm_ix (dm_ix (dm_var (A := (aE K)) (f := false) (x := v_law_rows) rfl) (dm_up (g := true) (dm_ixT4a (dm_var (A := (aE K)) (f := false) (x := v_law_sweep) rfl)))) (dm_up (g := true) (dm_ixT4b (dm_var (A := (aE K)) (f := false) (x := v_law_sweep) rfl))))) (fun _ _ => rfl) (fun _ _ => rfl) (fun _ _ => rfl)))) (db_ret dm_str) (db_nx (s := ()) (.cons .same (.cons .same .nil))) (fun s2 => (db_ret dm_str)))))) h
theorem ok_law_wild (F : FnP K "_law_wild" "_law_wild" s_law_wild f fd) (T : Txt K mg)
    (D_law_sweeps : DefAt P w K mg base "_law_sweeps" 1 ["_law_rows"] (spF (sp1 (aE K) (aE K) f_law_sweeps))) : FnOk P w K mg base CX0 2 f fd ["_law_rows", "_law_d"] (spF (sp2 (aE K) (aE K) (aE K) f_law_wild)) := by
  refine fnN_ok F sc_law_wild (fun As R h => by obtain ⟨v_law_rows, v_law_d, c, rfl, _⟩ := h; rfl) (fun cdv A outer s H E hr => ?_)
  refine ⟨_, (pss_cons (ps_set (i := 2) sc_law_wild.nd rfl (by first | exact Or.inl rfl | exact Or.inr rfl) (pe_callD D_law_sweeps (hr.mono (by decide)) (by rfl) (pa_cons (pv 0) pa_nil)))
    (pss_cons (ps_set (i := 3) sc_law_wild.nd rfl (by first | exact Or.inl rfl | exact Or.inr rfl) (pe_lst (pa_cons (pe_op op_mod (pe_ix (ix_listK (K := K) rfl) (pv 1) pe_int (fun _ _ => rfl)) pe_int) (pa_cons (pe_op op_mod (pe_ix (ix_listK (K := K) rfl) (pv 1) pe_int (fun _ _ => rfl)) pe_int) (pa_cons (pe_op op_mod (pe_ix (ix_listK (K := K) rfl) (pv 1) pe_int (fun _ _ => rfl)) pe_int) (pa_cons (pe_op op_mod (pe_ix (ix_listK (K := K) rfl) (pv 1) pe_int (fun _ _ => rfl)) pe_int) pa_nil))))))
    (pss_cons (ps_if (PW.pt (pw_and (pt_cmpR (op_nePK (K := K) rfl hr.units) (pv 2) (pe_lst pa_nil) (nomark _)) (pw_and1 (pt_cmpR op_gt (pe_op op_mod (pe_op op_fdiv (pe_ix (ix_listK (K := K) rfl) (pv 1) pe_int (fun _ _ => rfl)) pe_int) pe_int) pe_int (nomark _))))) (pss_cons (ps_set (i := 3) sc_law_wild.nd rfl (by first | exact Or.inl rfl | exact Or.inr rfl) (pe_callTy (call_listK (K := K) rfl) (by rfl) T.b_list (by decide +kernel) (pa_cons (pe_ix (ix_listK (K := K) rfl) (pv 2) (pe_op op_mod (pe_ix (ix_listK (K := K) rfl) (pv 1) pe_int (fun _ _ => rfl)) (pe_callB (call_lenK (K := K) rfl) (by rfl) T.b_len (by decide +kernel) (pa_cons (pv 2) pa_nil))) (fun _ _ => rfl)) pa_nil)))
    (pss_cons (ps_if (pt_cmpR op_eq (pe_op op_mod (pe_op op_fdiv (pe_ix (ix_listK (K := K) rfl) (pv 1) pe_int (fun _ _ => rfl)) pe_int) pe_int) pe_int (nomark _)) (pss_cons (ps_set (i := 4) sc_law_wild.nd rfl (by first | exact Or.inl rfl | exact Or.inr rfl) (pe_op op_mod (pe_ix (ix_listK (K := K) rfl) (pv 1) pe_int (fun _ _ => rfl)) pe_int))
    (pss_cons (ps_asg (pe_ix (ix_listK (K := K) rfl) (pe_lst (pa_cons (pe_op op_sub (pe_ix (ix_listK (K := K) rfl) (pv 3) (pv 4) (fun _ _ => rfl)) pe_int) (pa_cons (pe_op op_add (pe_ix (ix_listK (K := K) rfl) (pv 3) (pv 4) (fun _ _ => rfl)) pe_int) (pa_cons (pe_un un_neg pe_int) (pa_cons pe_int (pa_cons (pe_op op_pow pe_int pe_int) (pa_cons (pe_op op_sub pe_int (pe_ix (ix_listK (K := K) rfl) (pv 3) (pv 4) (fun _ _ => rfl))) pa_nil))))))) (pe_op op_mod (pe_ix (ix_listK (K := K) rfl) (pv 1) pe_int (fun _ _ => rfl)) pe_int) (fun _ _ => rfl)) (pg_sub (pv 3) (pv 4) set_list))
    pss_nil)) pss_nil)
    pss_nil)) pss_nil)
    (pss_cons (ps_ret (pe_tup (pa_cons (pe_ix (ix_listK (K := K) rfl) (pv 3) pe_int (fun _ _ => rfl)) (pa_cons (pe_ix (ix_listK (K := K) rfl) (pv 3) pe_int (fun _ _ => rfl)) (pa_cons (pe_ix (ix_listK (K := K) rfl) (pv 3) pe_int (fun _ _ => rfl)) (pa_cons (pe_ix (ix_listK (K := K) rfl) (pv 3) pe_int (fun _ _ => rfl)) pa_nil)))))) pss_nil)))), fun H0 As R hS => ?_⟩
  obtain ⟨v_law_rows, v_law_d, c, rfl, h, rfl⟩ := hS
  exact db_fin (B := fun (_ : Unit) => [.no, .no, .no, .no, .no]) (show DB ⟨C0.W, K⟩ H0 [sl false ((aE K) v_law_rows), sl false ((aE K) v_law_d), .no, .no, .no] _ (aE K) _ _ from (db_set (i := 2) (f := true) (Ax := (aE K)) (dm_call1 bo_refl (dm_var (A := (aE K)) (f := false) (x := v_law_rows) rfl)) (fun v_law_some => (db_setO (i := 3) (dmo_lst (dam_cons (dm_mod (dm_ixF (dm_var (A := (aE K)) (f := false) (x := v_law_d) rfl) dm_int) dm_int) (dam_cons (dm_mod (dm_ixF (dm_var (A := (aE K)) (f := false) (x := v_law_d) rfl) dm_int) dm_int) (dam_cons (dm_mod (dm_ixF (dm_var (A := (aE K)) (f := false) (x := v_law_d) rfl) dm_int) dm_int) (dam_cons (dm_mod (dm_ixF (dm_var (A := (aE K)) (f := false) (x := v_law_d) rfl) dm_int) dm_int) (dam_nil (α := Int))))))) (fun v_law_sweep => (db_if (B1 := fun (s2 : (List Int)) => [sl false ((aE K) v_law_rows), sl false ((aE K) v_law_d), sl true ((aE K) v_law_some), .own (oE K s2), .no]) (dtm_and (dtm_test (dm_neP (dm_var (A := (aE K)) (f := true) (x := v_law_some) rfl) (dm_lst (f := true) (dam_nil (α := (P4 Int Int Int Int)))) (by decide))) (dtm_test (dm_cmp (G := gtI) (g := fun i j => decide (j < i)) (dm_mod (dm_div (dm_ixF (dm_var (A := (aE K)) (f := false) (x := v_law_d) rfl) dm_int) dm_int) dm_int) dm_int (fun _ _ => rfl)))) (db_setO (i := 3) (dmo_listP4 (dm_ix (dm_var (A := (aE K)) (f := true) (x := v_law_some) rfl) (dm_mod (dm_ixF (dm_var (A := (aE K)) (f := false) (x := v_law_d) rfl) dm_int) (dm_len (dm_var (A := (aE K)) (f := true) (x := v_law_some) rfl))))) (fun v_law_sweep => (db_if (B1 := fun (s3 : (List Int)) => [sl false ((aE K) v_law_rows), sl false ((aE K) v_law_d), sl true ((aE K) v_law_some), .own (oE K s3), .no]) (dtm_test (dm_eqI (dm_mod (dm_div (dm_ixF (dm_var (A := (aE K)) (f := false) (x := v_law_d) rfl) dm_int) dm_int) dm_int) dm_int)) (db_set (i := 4) (f := true) (Ax := (aE K)) (dm_mod (dm_ixF (dm_var (A := (aE K)) (f := false) (x := v_law_d) rfl) dm_int) dm_int) (fun v_law_at => (db_seti (i := 3) (xs := v_law_sweep) rfl (dm_ixF (dm_lst (f := true) (dam_cons (dm_sub (dm_ixOwn (i := 3) (xs := v_law_sweep) rfl (dm_up (g := true) (dm_var (A := (aE K)) (f := true) (x := v_law_at) rfl))) dm_int) (dam_cons (dm_add (dm_ixOwn (i := 3) (xs := v_law_sweep) rfl (dm_up (g := true) (dm_var (A := (aE K)) (f := true) (x := v_law_at) rfl))) dm_int) (dam_cons (dm_neg dm_int) (dam_cons dm_int (dam_cons (dm_pow dm_int dm_int) (dam_cons (dm_sub dm_int (dm_ixOwn (i := 3) (xs := v_law_sweep) rfl (dm_up (g := true) (dm_var (A := (aE K)) (f := true) (x := v_law_at) rfl)))) (dam_nil (α := Int))))))))) (dm_mod (dm_ixF (dm_var (A := (aE K)) (f := false) (x := v_law_d) rfl) dm_int) dm_int)) (dm_up (g := true) (dm_var (A := (aE K)) (f := true) (x := v_law_at) rfl)) (fun v_law_sweep => (db_nx (s := v_law_sweep) (.cons .same (.cons .same (.cons .same (.cons .same (.cons .drop .nil)))))))))) (db_nx (s := v_law_sweep) (.cons .same (.cons .same (.cons .same (.cons .same (.cons .drop .nil)))))) (fun s3 => (db_nx (s := s3) (.cons .same (.cons .same (.cons .same (.cons .same (.cons .drop .nil)))))))))) (db_nx (s := v_law_sweep) (.cons .same (.cons .same (.cons .same (.cons .same (.cons .drop .nil)))))) (fun s2 => (db_bor (bo_ownE (K := K) (i := 3) (xs := s2) rfl) (db_ret (dm_tup4 (dm_ixF (dm_var (A := (aE K)) (f := true) (x := s2) rfl) dm_int) (dm_ixF (dm_var (A := (aE K)) (f := true) (x := s2) rfl) dm_int) (dm_ixF (dm_var (A := (aE K)) (f := true) (x := s2) rfl) dm_int) (dm_ixF (dm_var (A := (aE K)) (f := true) (x := s2) rfl) dm_int))))))))))) h
theorem ok_law_tried (F : FnP K "_law_tried" "_law_tried" s_law_tried f fd) (T : Txt K mg)
    (D_Deal_swept_x : MethAtX P w K mg base (cDeal K) "swept" 5 ["self", "sweep"] (spX (sx2 K (aDeal K) (aE K) (aEo K) f_Deal_swept_x))) : FnOk P w K mg base CX0 6 f fd ["_law_deal", "_law_sweep"] (spF (sp2 (aDeal K) (aE K) (aTO K) f_law_tried)) := by
  refine fnN_ok F sc_law_tried (fun As R h => by obtain ⟨v_law_deal, v_law_sweep, c, rfl, _⟩ := h; rfl) (fun cdv A outer s H E hr => ?_)
  refine ⟨_, (pss_cons (ps_set (i := 2) sc_law_tried.nd rfl (by first | exact Or.inl rfl | exact Or.inr rfl) pe_str)
    (pss_cons (ps_set (i := 3) sc_law_tried.nd rfl (by first | exact Or.inl rfl | exact Or.inr rfl) pe_non)
    (pss_cons (ps_tryX rfl rfl takes_no (fun _ _ _ tk _ => pss_cons (ps_set (i := 3) sc_law_tried.nd rfl (by first | exact Or.inl rfl | exact Or.inr rfl) (pe_methX (pv 0) D_Deal_swept_x (hr.mono (by decide)) tk (pa_cons (pv 1) pa_nil))) pss_nil) (.cons ⟨by rfl, by decide, .inl T.g_NoField⟩ (fun _ _ _ _ _ _ _ => (pss_cons (ps_set (i := 2) sc_law_tried.nd rfl (by first | exact Or.inl rfl | exact Or.inr rfl) pe_str)
    pss_nil)) (.cons ⟨by rfl, by decide, .inl T.g_NoCard⟩ (fun _ _ _ _ _ _ _ => (pss_cons (ps_set (i := 2) sc_law_tried.nd rfl (by first | exact Or.inl rfl | exact Or.inr rfl) pe_str)
    pss_nil)) (.cons ⟨by rfl, by decide, .inl T.g_SnatchError⟩ (fun _ _ _ _ _ _ _ => (pss_cons (ps_set (i := 2) sc_law_tried.nd rfl (by first | exact Or.inl rfl | exact Or.inr rfl) pe_str)
    pss_nil)) .nil))))
    (pss_cons (ps_ret (pe_tup (pa_cons (pv 2) (pa_cons (pv 3) pa_nil)))) pss_nil)))), fun H0 As R hS => ?_⟩
  obtain ⟨v_law_deal, v_law_sweep, c, rfl, h, rfl⟩ := hS
  exact db_fin (B := fun (_ : Unit) => [.no, .no, .no, .no]) (show DB ⟨C0.W, K⟩ H0 [sl false ((aDeal K) v_law_deal), sl false ((aE K) v_law_sweep), .no, .no] _ (aTO K) _ _ from (db_set (i := 2) (f := true) (Ax := (aE K)) dm_str (fun v_law_why => (db_set (i := 3) (f := true) (Ax := (aEoO K)) dm_aeN (fun v_law_told => (db_tryS (i := 3) (f := true) (Ax := (aEoO K)) (lx := lxn) (lc := lxc) (s0 := fun y => (v_law_why, y)) (B1 := fun (s1 : Str × (Option (List Int))) => [sl false ((aDeal K) v_law_deal), sl false ((aE K) v_law_sweep), sl true ((aE K) s1.1), sl true ((aEoO K) s1.2)]) T.x_exm (fun _ => (dmx_someO (dx_meth1 (C := cDeal K) (O := oDeal K) (dm_var (A := (aDeal K)) (f := false) (x := v_law_deal) rfl) (dm_var (A := (aE K)) (f := false) (x := v_law_sweep) rfl) (fun _ => rfl)))) (fun y => (.cons .same (.cons .same (.cons .same (.cons .same .nil))))) (.cons (c := "NoField") (by decide) (db_set (i := 2) (f := true) (Ax := (aE K)) dm_str (fun v_law_why => (db_nx (s := (v_law_why, v_law_told)) (.cons .same (.cons .same (.cons .same (.cons .same .nil))))))) (.cons (c := "NoCard") (by decide) (db_set (i := 2) (f := true) (Ax := (aE K)) dm_str (fun v_law_why => (db_nx (s := (v_law_why, v_law_told)) (.cons .same (.cons .same (.cons .same (.cons .same .nil))))))) (.cons (c := "SnatchError") (by decide) (db_set (i := 2) (f := true) (Ax := (aE K)) dm_str (fun v_law_why => (db_nx (s := (v_law_why, v_law_told)) (.cons .same (.cons .same (.cons .same (.cons .same .nil))))))) .nil))) (fun s1 => (db_ret (dm_tupTO (dm_up (g := true) (dm_var (A := (aE K)) (f := true) (x := s1.1) rfl)) (dm_var (A := (aEoO K)) (f := true) (x := s1.2) rfl)))))))))) h
theorem ok_law (F : FnP K "law" "law" s_law f fd) (T : Txt K mg)
    (D_law_numbers : DefAt P w K mg base "_law_numbers" 1 ["_law_script", "_law_many"] (spF (sp2 (aE K) (aE K) (aE K) f_law_numbers)))
    (D_law_same : DefAt P w K mg base "_law_same" 9 ["_law_found", "_law_due"] (spF (S_same K 9)))
    (D_law_book : DefAt P w K mg base "_law_book" 3 ["_law_d", "_law_most"] (spF (sp2 (aE K) (aE K) (aE K) f_law_book)))
    (D_law_copy : DefAt P w K mg base "_law_copy" 1 ["_law_rows"] (spF (sp1 (aE K) (aE K) f_law_copy)))
    (D_Book___init__ : MkAt P w K mg base "Book" (cBook K) 4 ["self", "verses"] (spI (si1 (aE K) (oBook K) f_Book___init__) (cBook K)))
    (D_Deal_swept : MethAt P w K mg base (cDeal K) "swept" 5 ["self", "sweep"] (spF (sp2 (aDeal K) (aE K) (aE K) f_Deal_swept)))
    (D_law_fields : DefAt P w K mg base "_law_fields" 1 ["_law_many", "_law_d"] (spF (sp2 (aE K) (aE K) (aE K) f_law_fields)))
    (D_law_made : DefAt P w K mg base "_law_made" 5 ["_law_book_here", "_law_rows"] (spR (sp2 (aBook K) (aE K) (aDeal K) f_law_made)))
    (D_law_sweeps : DefAt P w K mg base "_law_sweeps" 1 ["_law_rows"] (spF (sp1 (aE K) (aE K) f_law_sweeps)))
    (D_law_touched : DefAt P w K mg base "_law_touched" 1 ["_law_rows", "_law_sweep"] (spF (sp2 (aE K) (aE K) (aE K) f_law_touched)))
    (D_law_sweep_bad : DefAt P w K mg base "_law_sweep_bad" 1 ["_law_rows", "_law_sweep"] (spF (sp2 (aE K) (aE K) (aE K) f_law_sweep_bad)))
    (D_law_wild : DefAt P w K mg base "_law_wild" 2 ["_law_rows", "_law_d"] (spF (sp2 (aE K) (aE K) (aE K) f_law_wild)))
    (D_law_tried : DefAt P w K mg base "_law_tried" 6 ["_law_deal", "_law_sweep"] (spF (sp2 (aDeal K) (aE K) (aTO K) f_law_tried))) (hL : ∀ ns : List Int, ns.length ≤ 63 → f_law ns = some true) : FnOk P w K mg base CX0 10 f fd ["_law_script"] (spL K) := by
  refine lawM_ok F sc_law hL (fun cdv A outer s H E hr => ?_)
  refine ⟨_, (pss_cons (ps_set (i := 1) sc_law.nd rfl (by first | exact Or.inl rfl | exact Or.inr rfl) (pe_callD D_law_numbers (hr.mono (by decide)) (by rfl) (pa_cons (pv 0) (pa_cons pe_int pa_nil))))
    (pss_cons (ps_set (i := 2) sc_law.nd rfl (by first | exact Or.inl rfl | exact Or.inr rfl) (pe_callD D_law_book (hr.mono (by decide)) (by rfl) (pa_cons (pe_slice (sl_listK (K := K) rfl) (pv 1) (po_some pe_int) po_none) (pa_cons (pe_ix (ix_listK (K := K) rfl) (pe_lst (pa_cons pe_int (pa_cons pe_int (pa_cons pe_int pa_nil)))) (pe_op op_mod (pe_ix (ix_listK (K := K) rfl) (pv 1) pe_int (fun _ _ => rfl)) pe_int) (fun _ _ => rfl)) pa_nil))))
    (pss_cons (ps_set (i := 3) sc_law.nd rfl (by first | exact Or.inl rfl | exact Or.inr rfl) (pe_callD D_law_fields (hr.mono (by decide)) (by rfl) (pa_cons (pe_callB (call_lenK (K := K) rfl) (by rfl) T.b_len (by decide +kernel) (pa_cons (pv 2) pa_nil)) (pa_cons (pe_slice (sl_listK (K := K) rfl) (pv 1) (po_some pe_int) po_none) pa_nil))))
    (pss_cons (ps_set (i := 4) sc_law.nd rfl (by first | exact Or.inl rfl | exact Or.inr rfl) (pe_callD D_law_made (hr.mono (by decide)) (by rfl) (pa_cons (pe_mkD D_Book___init__ (hr.mono (by decide)) (by rfl) (pa_cons (pe_callD D_law_copy (hr.mono (by decide)) (by rfl) (pa_cons (pv 2) pa_nil)) pa_nil)) (pa_cons (pv 3) pa_nil))))
    (pss_cons (ps_set (i := 5) sc_law.nd rfl (by first | exact Or.inl rfl | exact Or.inr rfl) (pe_op (op_catK (K := K) rfl) (pe_slice (sl_listK (K := K) rfl) (pe_callD D_law_sweeps (hr.mono (by decide)) (by rfl) (pa_cons (pv 3) pa_nil)) (po_some (pe_op op_mod (pe_ix (ix_listK (K := K) rfl) (pv 1) pe_int (fun _ _ => rfl)) pe_int)) (po_some pe_int)) (pe_lc (own := [("_law_k", 6)]) (g := (gName 6)) (by rfl) sc_law.nd (pi_range1 (by rfl) T.b_range (pa_cons pe_int pa_nil)) (blkOk_by (own := [("_law_k", 6)]) (N := ["_law_script", "_law_numbers_here", "_law_verses", "_law_rows", "_law_deal", "_law_some", "_law_k", "_law_sweep", "_law_why", "_law_found", "_law_due"]) (sc := defScope s_law) (by decide +kernel)) (fun _ _ _ _ _ => (pg_name (i := 6) sc_law.nd rfl (by first | exact Or.inl rfl | exact Or.inr rfl))) (fun _ _ _ _ _ => pts_nil) (fun _ _ _ _ _ => (pe_callD D_law_wild (hr.mono (by decide)) (by rfl) (pa_cons (pv 3) (pa_cons (pe_slice (sl_listK (K := K) rfl) (pv 1) (po_some (pe_op op_add pe_int (pe_op op_mul pe_int (pv 6)))) po_none) pa_nil)))))))
    (pss_cons (ps_for PassesOwn.never rfl (pi_listK (K := K) rfl (pv 5)) (pg_name (i := 7) sc_law.nd rfl (by first | exact Or.inl rfl | exact Or.inr rfl)) (pss_cons (ps_set (i := 8) sc_law.nd rfl (by first | exact Or.inl rfl | exact Or.inr rfl) (pe_callD D_law_sweep_bad (hr.mono (by decide)) (by rfl) (pa_cons (pv 3) (pa_cons (pv 7) pa_nil))))
    (pss_cons (ps_set (i := 9) sc_law.nd rfl (by first | exact Or.inl rfl | exact Or.inr rfl) (pe_callD D_law_tried (hr.mono (by decide)) (by rfl) (pa_cons (pv 4) (pa_cons (pv 7) pa_nil))))
    (pss_cons (ps_if (pt_cmpR op_ne (pv 8) pe_str (nomark _)) (pss_cons (ps_if (pt_cmpR (op_nePK (K := K) rfl hr.units) (pv 9) (pe_tup (pa_cons (pv 8) (pa_cons pe_non pa_nil))) (nomark _)) (pss_cons (ps_ret pe_bl) pss_nil) pss_nil)
    pss_nil) (pss_cons (ps_set (i := 10) sc_law.nd rfl (by first | exact Or.inl rfl | exact Or.inr rfl) (pe_callD D_law_touched (hr.mono (by decide)) (by rfl) (pa_cons (pv 3) (pa_cons (pv 7) pa_nil))))
    (pss_cons (ps_if (PW.pt (pw_or (pt_cmpR op_ne (pe_ix (ix_tupK (K := K) rfl) (pv 9) pe_int (fun _ _ => rfl)) pe_str (nomark _)) (pw_or1 (pt_not (pt_val (pe_callD D_law_same (hr.mono (by decide)) (by rfl) (pa_cons (pe_ix (ix_tupK (K := K) rfl) (pv 9) pe_int (fun _ _ => rfl)) (pa_cons (pv 10) pa_nil)))))))) (pss_cons (ps_ret pe_bl) pss_nil) pss_nil)
    (pss_cons (ps_expr (pe_bm PySem.F.plainAttrs_list PySem.F.slot_list_append PySem.F.type_list_append mt_append (pe_ix (ix_tupK (K := K) rfl) (pv 9) pe_int (fun _ _ => rfl)) (pa_cons pe_int pa_nil)))
    (pss_cons (ps_if (pt_not (pt_val (pe_callD D_law_same (hr.mono (by decide)) (by rfl) (pa_cons (pe_methD (pv 4) D_Deal_swept (hr.mono (by decide)) (pa_cons (pv 7) pa_nil)) (pa_cons (pv 10) pa_nil))))) (pss_cons (ps_ret pe_bl) pss_nil) pss_nil)
    pss_nil)))))
    pss_nil))))
    (pss_cons (ps_ret pe_bl) pss_nil))))))), fun H0 As R hS => ?_⟩
  obtain ⟨v_law_script, c, rfl, h, rfl⟩ := hS
  exact db_fin (B := fun (_ : Unit) => [.no, .no, .no, .no, .no, .no, .no, .no, .no, .no, .no]) (show DB ⟨C0.W, K⟩ H0 [sl false ((aE K) v_law_script), .no, .no, .no, .no, .no, .no, .no, .no, .no, .no] _ (aE K) _ _ from (db_set (i := 1) (f := true) (Ax := (aE K)) (dm_call2 bo_refl (dm_var (A := (aE K)) (f := false) (x := v_law_script) rfl) dm_int) (fun v_law_numbers_here => (db_set (i := 2) (f := true) (Ax := (aE K)) (dm_call2 bo_refl (dm_slF (dm_var (A := (aE K)) (f := true) (x := v_law_numbers_here) rfl) (dom_so dm_int) dom_no) (dm_ixF (dm_lst (f := true) (dam_cons dm_int (dam_cons dm_int (dam_cons dm_int (dam_nil (α := Int)))))) (dm_mod (dm_ixF (dm_var (A := (aE K)) (f := true) (x := v_law_numbers_here) rfl) dm_int) dm_int))) (fun v_law_verses => (db_set (i := 3) (f := true) (Ax := (aE K)) (dm_call2 bo_refl (dm_len (dm_var (A := (aE K)) (f := true) (x := v_law_verses) rfl)) (dm_slF (dm_var (A := (aE K)) (f := true) (x := v_law_numbers_here) rfl) (dom_so dm_int) dom_no)) (fun v_law_rows => (db_set (i := 4) (f := true) (Ax := (aDeal K)) (dm_callR2 (dm_make1 (Cl := cBook K) (O := oBook K) bo_refl (dm_call1 bo_refl (dm_var (A := (aE K)) (f := true) (x := v_law_verses) rfl))) (dm_var (A := (aE K)) (f := true) (x := v_law_rows) rfl)) (fun v_law_deal => (db_set (i := 5) (f := true) (Ax := (aE K)) (dm_cat (dm_sl (dm_call1 bo_refl (dm_var (A := (aE K)) (f := true) (x := v_law_rows) rfl)) (dom_so (dm_mod (dm_ixF (dm_var (A := (aE K)) (f := true) (x := v_law_numbers_here) rfl) dm_int) dm_int)) (dom_so dm_int)) (dm_lc (vs := [6]) (dwm_rng1 dm_int) (fun x1 => dg_name) (fun x1 => dtm_yes) (fun x1 => (dm_call2 bo_refl (dm_var (A := (aE K)) (f := true) (x := v_law_rows) rfl) (dm_slF (dm_var (A := (aE K)) (f := true) (x := v_law_numbers_here) rfl) (dom_so (dm_add dm_int (dm_mul dm_int (dm_up (g := true) (dm_var (A := (aE K)) (f := true) (x := x1) rfl))))) dom_no))))) (fun v_law_some => (db_for (vs := [7]) (B1 := fun (s2 : Unit) => [sl false ((aE K) v_law_script), sl true ((aE K) v_law_numbers_here), sl true ((aE K) v_law_verses), sl true ((aE K) v_law_rows), sl true ((aDeal K) v_law_deal), sl true ((aE K) v_law_some), .no, .no, .no, .no, .no]) (s0 := ()) (dwm_list (dm_var (A := (aE K)) (f := true) (x := v_law_some) rfl)) (.cons .same (.cons .same (.cons .same (.cons .same (.cons .same (.cons .same (.cons .drop (.cons .drop (.cons .drop (.cons .drop (.cons .drop .nil))))))))))) (fun x3 s2 => dg_name) (fun x3 s2 => (db_set (i := 8) (f := true) (Ax := (aE K)) (dm_call2 bo_refl (dm_var (A := (aE K)) (f := true) (x := v_law_rows) rfl) (dm_var (A := (aE K)) (f := true) (x := x3) rfl)) (fun v_law_why => (db_setR (i := 9) (dmr_call2 bo_refl (dm_var (A := (aDeal K)) (f := true) (x := v_law_deal) rfl) (dm_var (A := (aE K)) (f := true) (x := x3) rfl)) (fun v_law_found => (db_if (B1 := fun (s14 : Unit) => [sl false ((aE K) v_law_script), sl true ((aE K) v_law_numbers_here), sl true ((aE K) v_law_verses), sl true ((aE K) v_law_rows), sl true ((aDeal K) v_law_deal), sl true ((aE K) v_law_some), .no, sl true ((aE K) x3), sl true ((aE K) v_law_why), .no, .no]) (dtm_test (dm_neS (dm_up (g := true) (dm_var (A := (aE K)) (f := true) (x := v_law_why) rfl)) dm_str)) (db_if (B1 := fun (s15 : Unit) => [sl false ((aE K) v_law_script), sl true ((aE K) v_law_numbers_here), sl true ((aE K) v_law_verses), sl true ((aE K) v_law_rows), sl true ((aDeal K) v_law_deal), sl true ((aE K) v_law_some), .no, sl true ((aE K) x3), sl true ((aE K) v_law_why), .reg ((aTO K) v_law_found), .no]) (dtm_bor (bo_reg (A := (aTO K) v_law_found) (i := 9) rfl) (dtm_test (dm_neP (dm_ofTO (dm_var (A := (aTO K)) (f := true) (x := v_law_found) rfl)) (dm_tup2 (dm_up (g := true) (dm_var (A := (aE K)) (f := true) (x := v_law_why) rfl)) (dm_nonO (α := (List Int)))) (by decide)))) (db_ret dm_bl) (db_nx (s := ()) (.cons .same (.cons .same (.cons .same (.cons .same (.cons .same (.cons .same (.cons .drop (.cons .same (.cons .same (.cons .same (.cons .drop .nil)))))))))))) (fun s15 => (db_nx (s := ()) (.cons .same (.cons .same (.cons .same (.cons .same (.cons .same (.cons .same (.cons .drop (.cons .same (.cons .same (.cons .drop (.cons .drop .nil)))))))))))))) (db_set (i := 10) (f := true) (Ax := (aE K)) (dm_call2 bo_refl (dm_var (A := (aE K)) (f := true) (x := v_law_rows) rfl) (dm_var (A := (aE K)) (f := true) (x := x3) rfl)) (fun v_law_due => (db_if (B1 := fun (s16 : Unit) => [sl false ((aE K) v_law_script), sl true ((aE K) v_law_numbers_here), sl true ((aE K) v_law_verses), sl true ((aE K) v_law_rows), sl true ((aDeal K) v_law_deal), sl true ((aE K) v_law_some), .no, sl true ((aE K) x3), sl true ((aE K) v_law_why), .reg ((aTO K) v_law_found), sl true ((aE K) v_law_due)]) (dtm_bor (bo_reg (A := (aTO K) v_law_found) (i := 9) rfl) (dtm_or (dtm_test (dm_neS (dm_ixT2a (dm_ofTO (dm_var (A := (aTO K)) (f := true) (x := v_law_found) rfl))) dm_str)) (dtm_not (dtm_B (dm_same bo_refl (dm_ixT2b (dm_ofTO (dm_var (A := (aTO K)) (f := true) (x := v_law_found) rfl))) (dm_someO (dm_var (A := (aE K)) (f := true) (x := v_law_due) rfl))))))) (db_ret dm_bl) (db_nx (s := ()) (.cons .same (.cons .same (.cons .same (.cons .same (.cons .same (.cons .same (.cons .drop (.cons .same (.cons .same (.cons .same (.cons .same .nil)))))))))))) (fun s16 => (db_dropTO (i := 9) rfl dm_int (db_if (B1 := fun (s17 : Unit) => [sl false ((aE K) v_law_script), sl true ((aE K) v_law_numbers_here), sl true ((aE K) v_law_verses), sl true ((aE K) v_law_rows), sl true ((aDeal K) v_law_deal), sl true ((aE K) v_law_some), .no, sl true ((aE K) x3), sl true ((aE K) v_law_why), .no, sl true ((aE K) v_law_due)]) (dtm_not (dtm_B (dm_same bo_refl (dm_meth1 (Cl := cDeal K) (O := oDeal K) (dm_var (A := (aDeal K)) (f := true) (x := v_law_deal) rfl) (dm_var (A := (aE K)) (f := true) (x := x3) rfl) (fun _ => rfl)) (dm_var (A := (aE K)) (f := true) (x := v_law_due) rfl)))) (db_ret dm_bl) (db_nx (s := ()) (.cons .same (.cons .same (.cons .same (.cons .same (.cons .same (.cons .same (.cons .drop (.cons .same (.cons .same (.cons .drop (.cons .same .nil)))))))))))) (fun s17 => (db_nx (s := ()) (.cons .same (.cons .same (.cons .same (.cons .same (.cons .same (.cons .same (.cons .drop (.cons .same (.cons .same (.cons .drop (.cons .drop .nil))))))))))))))))))) (fun s14 => (db_nx (s := ()) (.cons .same (.cons .same (.cons .same (.cons .same (.cons .same (.cons .same (.cons .drop (.cons .drop (.cons .drop (.cons .drop (.cons .drop .nil))))))))))))))))))) (fun s2 => (db_ret dm_bl)))))))))))))) h
end
end Kj

set_option Elab.async false
set_option linter.all false
set_option maxRecDepth 100000
set_option maxHeartbeats 0
namespace Kj
open PySem PySem.Spec PyProof.Rows L2
def d_law_numbers : He.DefD := ⟨("_law_numbers", none), "_law_numbers", "_law_numbers", defArgs s_law_numbers, defBody s_law_numbers, defScope s_law_numbers, [], []⟩
def d_law_same : He.DefD := ⟨("_law_same", none), "_law_same", "_law_same", defArgs s_law_same, defBody s_law_same, defScope s_law_same, [], []⟩
def d_law_sound : He.DefD := ⟨("_law_sound", none), "_law_sound", "_law_sound", defArgs s_law_sound, defBody s_law_sound, defScope s_law_sound, [], []⟩
def d_law_pool : He.DefD := ⟨("_law_pool", none), "_law_pool", "_law_pool", defArgs s_law_pool, defBody s_law_pool, defScope s_law_pool, [], []⟩
def d_law_alike : He.DefD := ⟨("_law_alike", none), "_law_alike", "_law_alike", defArgs s_law_alike, defBody s_law_alike, defScope s_law_alike, [], []⟩
def d_law_verse : He.DefD := ⟨("_law_verse", none), "_law_verse", "_law_verse", defArgs s_law_verse, defBody s_law_verse, defScope s_law_verse, [], []⟩
def d_law_wide : He.DefD := ⟨("_law_wide", none), "_law_wide", "_law_wide", defArgs s_law_wide, defBody s_law_wide, defScope s_law_wide, [], []⟩
def d_law_book : He.DefD := ⟨("_law_book", none), "_law_book", "_law_book", defArgs s_law_book, defBody s_law_book, defScope s_law_book, [], []⟩
def d_law_copy : He.DefD := ⟨("_law_copy", none), "_law_copy", "_law_copy", defArgs s_law_copy, defBody s_law_copy, defScope s_law_copy, [], []⟩
def d_is_syllable : He.DefD := ⟨("is_syllable", none), "is_syllable", "is_syllable", defArgs s_is_syllable, defBody s_is_syllable, defScope s_is_syllable, [], []⟩
def d_is_verse : He.DefD := ⟨("is_verse", none), "is_verse", "is_verse", defArgs s_is_verse, defBody s_is_verse, defScope s_is_verse, [], []⟩
def d_begins : He.DefD := ⟨("begins", none), "begins", "begins", defArgs s_begins, defBody s_begins, defScope s_begins, [], []⟩
def d_check_rows : He.DefD := ⟨("check_rows", none), "check_rows", "check_rows", defArgs s_check_rows, defBody s_check_rows, defScope s_check_rows, [], []⟩
def d_Book___init__ : He.DefD := ⟨("Book", some "__init__"), "__init__", "Book.__init__", defArgs s_Book___init__, defBody s_Book___init__, defScope s_Book___init__, [], []⟩
def d_Book_many : He.DefD := ⟨("Book", some "many"), "many", "Book.many", defArgs s_Book_many, defBody s_Book_many, defScope s_Book_many, [], []⟩
def d_check_verse : He.DefD := ⟨("check_verse", none), "check_verse", "check_verse", defArgs s_check_verse, defBody s_check_verse, defScope s_check_verse, [], []⟩
def d_Book_verse : He.DefD := ⟨("Book", some "verse"), "verse", "Book.verse", defArgs s_Book_verse, defBody s_Book_verse, defScope s_Book_verse, [], []⟩
def d_copied : He.DefD := ⟨("copied", none), "copied", "copied", defArgs s_copied, defBody s_copied, defScope s_copied, [], []⟩
def d_check_fields : He.DefD := ⟨("check_fields", none), "check_fields", "check_fields", defArgs s_check_fields, defBody s_check_fields, defScope s_check_fields, [], []⟩
def d_Deal___init__ : He.DefD := ⟨("Deal", some "__init__"), "__init__", "Deal.__init__", defArgs s_Deal___init__, defBody s_Deal___init__, defScope s_Deal___init__, [], []⟩
def d_Deal_book : He.DefD := ⟨("Deal", some "book"), "book", "Deal.book", defArgs s_Deal_book, defBody s_Deal_book, defScope s_Deal_book, [], []⟩
def d_check_field : He.DefD := ⟨("check_field", none), "check_field", "check_field", defArgs s_check_field, defBody s_check_field, defScope s_check_field, [], []⟩
def d_Deal_rows : He.DefD := ⟨("Deal", some "rows"), "rows", "Deal.rows", defArgs s_Deal_rows, defBody s_Deal_rows, defScope s_Deal_rows, [], []⟩
def d_Deal_cards : He.DefD := ⟨("Deal", some "cards"), "cards", "Deal.cards", defArgs s_Deal_cards, defBody s_Deal_cards, defScope s_Deal_cards, [], []⟩
def d_check_row : He.DefD := ⟨("check_row", none), "check_row", "check_row", defArgs s_check_row, defBody s_check_row, defScope s_check_row, [], []⟩
def d_check_sweep : He.DefD := ⟨("check_sweep", none), "check_sweep", "check_sweep", defArgs s_check_sweep, defBody s_check_sweep, defScope s_check_sweep, [], []⟩
def d_Deal_swept : He.DefD := ⟨("Deal", some "swept"), "swept", "Deal.swept", defArgs s_Deal_swept, defBody s_Deal_swept, defScope s_Deal_swept, [], []⟩
def d_law_fields : He.DefD := ⟨("_law_fields", none), "_law_fields", "_law_fields", defArgs s_law_fields, defBody s_law_fields, defScope s_law_fields, [], []⟩
def d_law_made : He.DefD := ⟨("_law_made", none), "_law_made", "_law_made", defArgs s_law_made, defBody s_law_made, defScope s_law_made, [], []⟩
def d_law_sweeps : He.DefD := ⟨("_law_sweeps", none), "_law_sweeps", "_law_sweeps", defArgs s_law_sweeps, defBody s_law_sweeps, defScope s_law_sweeps, [], []⟩
def d_law_touched : He.DefD := ⟨("_law_touched", none), "_law_touched", "_law_touched", defArgs s_law_touched, defBody s_law_touched, defScope s_law_touched, [], []⟩
def d_law_sweep_bad : He.DefD := ⟨("_law_sweep_bad", none), "_law_sweep_bad", "_law_sweep_bad", defArgs s_law_sweep_bad, defBody s_law_sweep_bad, defScope s_law_sweep_bad, [], []⟩
def d_law_wild : He.DefD := ⟨("_law_wild", none), "_law_wild", "_law_wild", defArgs s_law_wild, defBody s_law_wild, defScope s_law_wild, [], []⟩
def d_law_tried : He.DefD := ⟨("_law_tried", none), "_law_tried", "_law_tried", defArgs s_law_tried, defBody s_law_tried, defScope s_law_tried, [], []⟩
def d_law : He.DefD := ⟨("law", none), "law", "law", defArgs s_law, defBody s_law, defScope s_law, [], []⟩
def fn : List He.DefD := [d_law_numbers, d_law_same, d_law_sound, d_law_pool, d_law_alike, d_law_verse, d_law_wide, d_law_book, d_law_copy, d_is_syllable, d_is_verse, d_begins, d_check_rows, d_Book___init__, d_Book_many, d_check_verse, d_Book_verse, d_copied, d_check_fields, d_Deal___init__, d_Deal_book, d_check_field, d_Deal_rows, d_Deal_cards, d_check_row, d_check_sweep, d_Deal_swept, d_law_fields, d_law_made, d_law_sweeps, d_law_touched, d_law_sweep_bad, d_law_wild, d_law_tried, d_law]
def fa : List He.Fa := [.glo "NoCard", .glo "NoField", .glo "SnatchError", .exc "NoCard", .exc "NoField", .glo "_law_numbers", .glo "_law_same", .glo "_law_sound", .glo "_law_pool", .glo "_law_alike", .glo "_law_verse", .glo "_law_wide", .glo "_law_book", .glo "_law_copy", .glo "is_syllable", .glo "is_verse", .glo "begins", .glo "check_rows", .glo "check_verse", .glo "copied", .glo "check_fields", .glo "check_field", .glo "check_row", .glo "check_sweep", .glo "_law_fields", .glo "_law_made", .glo "_law_sweeps", .glo "_law_touched", .glo "_law_sweep_bad", .glo "_law_wild", .glo "_law_tried", .glo "law", .glo "Book", .glo "Deal", .free "all", .free "any", .free "bool", .free "enumerate", .free "int", .free "isinstance", .free "len", .free "list", .free "min", .free "range", .free "set", .free "str", .free "tuple", .free "zip", .int "MOST_CARDS" 12, .int "MOST_LETTERS" 3, .int "MOST_ROWS" 3, .int "MOST_SYLLABLES" 8, .int "MOST_VERSES" 40, .cls "Book", .cls "Deal", .noat "Book" "lines", .noat "Deal" "fields", .noat "Deal" "source", .meth "Book" "many", .meth "Book" "verse", .meth "Deal" "book", .meth "Deal" "rows", .meth "Deal" "cards", .meth "Deal" "swept", .mkr "Book", .mkr "Deal"]
abbrev RR : PySem.W.OpenRow := PySem.W.OpenLaw.row PySem.Challenge.rw_kimariji_k15_sweeps_touch
def exK (K : PySem.W.Frag) : Bool := exmB K lxn lxc
abbrev hk : PySem.W.Hook := He.hookB 4 fa fn exK
def ob (s : PySem.W.SharedT) : He.AlD × Bool := He.obsBG 4 fa fn exK (HandSHeadRun.getT s)
theorem ob_eq (s : PySem.W.SharedT) : ob s = hk.obs s.abs := He.obsBG_eq (HandSHeadRun.getT_eq s)
theorem run (w : World) : HandSHeadRun.RunEq RR (PySem.W.view RR.prog [46]) hk ob 8000 ("SnatchError" :: "BadBook" :: "BadVerse" :: "Alike" :: "NoVerse" :: "BadDeal" :: "NoField" :: "NoCard" :: "Book" :: "Deal" :: "_wall" :: "check_rows" :: "is_verse" :: "is_syllable" :: "begins" :: "check_verse" :: "copied" :: "check_fields" :: "check_field" :: "check_row" :: "check_sweep" :: "_law_numbers" :: ["_law_same", "_law_sound", "_law_pool", "_law_alike", "_law_verse", "_law_wide", "_law_book", "_law_copy", "_law_fields", "_law_made", "_law_sweeps", "_law_touched", "_law_sweep_bad", "_law_wild", "_law_tried", "MOST_VERSES", "MOST_SYLLABLES", "MOST_LETTERS", "MOST_ROWS", "MOST_CARDS"] : List PySem.Str) w := by
  intro os
  kernel_rfl
theorem facts {P : Program} {w : World} {K : PySem.W.Frag} {h : Heap} {mg : Str → Option Value} {f : Addr} (X : K.In h) (G : h.Ns mainGlobals mg) (hfa : mg ("law" : Str) = some (.ref f)) (c : He.SaysD fa fn K) (cx : exK K = true) :
    ∃ fd : FuncData, (∀ (s : Shared) (v : Value), BindsTo s fd ⟨[v], []⟩ [("_law_script", v)]) ∧ ∀ base : Heap, K.In base → base.Ns mainGlobals mg → FnOk P w K mg base CX0 10 f fd ["_law_script"] (spL K) := by
  obtain ⟨fd_law_numbers, F_law_numbers⟩ := c.def_ 0 (d := d_law_numbers) rfl
  have g_law_numbers := He.glo_ok X G (c.fact 5 (f := .glo "_law_numbers") rfl)
  obtain ⟨fd_law_same, F_law_same⟩ := c.def_ 1 (d := d_law_same) rfl
  have g_law_same := He.glo_ok X G (c.fact 6 (f := .glo "_law_same") rfl)
  obtain ⟨fd_law_sound, F_law_sound⟩ := c.def_ 2 (d := d_law_sound) rfl
  have g_law_sound := He.glo_ok X G (c.fact 7 (f := .glo "_law_sound") rfl)
  obtain ⟨fd_law_pool, F_law_pool⟩ := c.def_ 3 (d := d_law_pool) rfl
  have g_law_pool := He.glo_ok X G (c.fact 8 (f := .glo "_law_pool") rfl)
  obtain ⟨fd_law_alike, F_law_alike⟩ := c.def_ 4 (d := d_law_alike) rfl
  have g_law_alike := He.glo_ok X G (c.fact 9 (f := .glo "_law_alike") rfl)
  obtain ⟨fd_law_verse, F_law_verse⟩ := c.def_ 5 (d := d_law_verse) rfl
  have g_law_verse := He.glo_ok X G (c.fact 10 (f := .glo "_law_verse") rfl)
  obtain ⟨fd_law_wide, F_law_wide⟩ := c.def_ 6 (d := d_law_wide) rfl
  have g_law_wide := He.glo_ok X G (c.fact 11 (f := .glo "_law_wide") rfl)
  obtain ⟨fd_law_book, F_law_book⟩ := c.def_ 7 (d := d_law_book) rfl
  have g_law_book := He.glo_ok X G (c.fact 12 (f := .glo "_law_book") rfl)
  obtain ⟨fd_law_copy, F_law_copy⟩ := c.def_ 8 (d := d_law_copy) rfl
  have g_law_copy := He.glo_ok X G (c.fact 13 (f := .glo "_law_copy") rfl)
  obtain ⟨fd_is_syllable, F_is_syllable⟩ := c.def_ 9 (d := d_is_syllable) rfl
  have g_is_syllable := He.glo_ok X G (c.fact 14 (f := .glo "is_syllable") rfl)
  obtain ⟨fd_is_verse, F_is_verse⟩ := c.def_ 10 (d := d_is_verse) rfl
  have g_is_verse := He.glo_ok X G (c.fact 15 (f := .glo "is_verse") rfl)
  obtain ⟨fd_begins, F_begins⟩ := c.def_ 11 (d := d_begins) rfl
  have g_begins := He.glo_ok X G (c.fact 16 (f := .glo "begins") rfl)
  obtain ⟨fd_check_rows, F_check_rows⟩ := c.def_ 12 (d := d_check_rows) rfl
  have g_check_rows := He.glo_ok X G (c.fact 17 (f := .glo "check_rows") rfl)
  obtain ⟨fd_Book___init__, F_Book___init__⟩ := c.def_ 13 (d := d_Book___init__) rfl
  obtain ⟨fd_Book_many, F_Book_many⟩ := c.def_ 14 (d := d_Book_many) rfl
  obtain ⟨fd_check_verse, F_check_verse⟩ := c.def_ 15 (d := d_check_verse) rfl
  have g_check_verse := He.glo_ok X G (c.fact 18 (f := .glo "check_verse") rfl)
  obtain ⟨fd_Book_verse, F_Book_verse⟩ := c.def_ 16 (d := d_Book_verse) rfl
  obtain ⟨fd_copied, F_copied⟩ := c.def_ 17 (d := d_copied) rfl
  have g_copied := He.glo_ok X G (c.fact 19 (f := .glo "copied") rfl)
  obtain ⟨fd_check_fields, F_check_fields⟩ := c.def_ 18 (d := d_check_fields) rfl
  have g_check_fields := He.glo_ok X G (c.fact 20 (f := .glo "check_fields") rfl)
  obtain ⟨fd_Deal___init__, F_Deal___init__⟩ := c.def_ 19 (d := d_Deal___init__) rfl
  obtain ⟨fd_Deal_book, F_Deal_book⟩ := c.def_ 20 (d := d_Deal_book) rfl
  obtain ⟨fd_check_field, F_check_field⟩ := c.def_ 21 (d := d_check_field) rfl
  have g_check_field := He.glo_ok X G (c.fact 21 (f := .glo "check_field") rfl)
  obtain ⟨fd_Deal_rows, F_Deal_rows⟩ := c.def_ 22 (d := d_Deal_rows) rfl
  obtain ⟨fd_Deal_cards, F_Deal_cards⟩ := c.def_ 23 (d := d_Deal_cards) rfl
  obtain ⟨fd_check_row, F_check_row⟩ := c.def_ 24 (d := d_check_row) rfl
  have g_check_row := He.glo_ok X G (c.fact 22 (f := .glo "check_row") rfl)
  obtain ⟨fd_check_sweep, F_check_sweep⟩ := c.def_ 25 (d := d_check_sweep) rfl
  have g_check_sweep := He.glo_ok X G (c.fact 23 (f := .glo "check_sweep") rfl)
  obtain ⟨fd_Deal_swept, F_Deal_swept⟩ := c.def_ 26 (d := d_Deal_swept) rfl
  obtain ⟨fd_law_fields, F_law_fields⟩ := c.def_ 27 (d := d_law_fields) rfl
  have g_law_fields := He.glo_ok X G (c.fact 24 (f := .glo "_law_fields") rfl)
  obtain ⟨fd_law_made, F_law_made⟩ := c.def_ 28 (d := d_law_made) rfl
  have g_law_made := He.glo_ok X G (c.fact 25 (f := .glo "_law_made") rfl)
  obtain ⟨fd_law_sweeps, F_law_sweeps⟩ := c.def_ 29 (d := d_law_sweeps) rfl
  have g_law_sweeps := He.glo_ok X G (c.fact 26 (f := .glo "_law_sweeps") rfl)
  obtain ⟨fd_law_touched, F_law_touched⟩ := c.def_ 30 (d := d_law_touched) rfl
  have g_law_touched := He.glo_ok X G (c.fact 27 (f := .glo "_law_touched") rfl)
  obtain ⟨fd_law_sweep_bad, F_law_sweep_bad⟩ := c.def_ 31 (d := d_law_sweep_bad) rfl
  have g_law_sweep_bad := He.glo_ok X G (c.fact 28 (f := .glo "_law_sweep_bad") rfl)
  obtain ⟨fd_law_wild, F_law_wild⟩ := c.def_ 32 (d := d_law_wild) rfl
  have g_law_wild := He.glo_ok X G (c.fact 29 (f := .glo "_law_wild") rfl)
  obtain ⟨fd_law_tried, F_law_tried⟩ := c.def_ 33 (d := d_law_tried) rfl
  have g_law_tried := He.glo_ok X G (c.fact 30 (f := .glo "_law_tried") rfl)
  obtain ⟨fd_law, F_law⟩ := c.def_ 34 (d := d_law) rfl
  have e := hfa.symm.trans (He.glo_ok X G (c.fact 31 (f := .glo "law") rfl))
  cases e
  have T : Txt K mg := ⟨He.free_ok X G (c.fact 34 (f := .free "all") rfl), He.free_ok X G (c.fact 35 (f := .free "any") rfl), He.free_ok X G (c.fact 36 (f := .free "bool") rfl), He.free_ok X G (c.fact 37 (f := .free "enumerate") rfl), He.free_ok X G (c.fact 38 (f := .free "int") rfl), He.free_ok X G (c.fact 39 (f := .free "isinstance") rfl), He.free_ok X G (c.fact 40 (f := .free "len") rfl), He.free_ok X G (c.fact 41 (f := .free "list") rfl), He.free_ok X G (c.fact 42 (f := .free "min") rfl), He.free_ok X G (c.fact 43 (f := .free "range") rfl), He.free_ok X G (c.fact 44 (f := .free "set") rfl), He.free_ok X G (c.fact 45 (f := .free "str") rfl), He.free_ok X G (c.fact 46 (f := .free "tuple") rfl), He.free_ok X G (c.fact 47 (f := .free "zip") rfl), He.int_ok X G (c.fact 48 (f := .int "MOST_CARDS" 12) rfl), He.int_ok X G (c.fact 49 (f := .int "MOST_LETTERS" 3) rfl), He.int_ok X G (c.fact 50 (f := .int "MOST_ROWS" 3) rfl), He.int_ok X G (c.fact 51 (f := .int "MOST_SYLLABLES" 8) rfl), He.int_ok X G (c.fact 52 (f := .int "MOST_VERSES" 40) rfl), He.cls_ok (c.fact 53 (f := .cls "Book") rfl), He.cls_ok (c.fact 54 (f := .cls "Deal") rfl), He.noat_ok (c.fact 55 (f := .noat "Book" "lines") rfl), He.noat_ok (c.fact 56 (f := .noat "Deal" "fields") rfl), He.noat_ok (c.fact 57 (f := .noat "Deal" "source") rfl), (have z := He.exc_ok (c.fact 3 (f := .exc "NoCard") rfl); ⟨He.glo_ok X G (c.fact 0 (f := .glo "NoCard") rfl), z.1, z.2.1, z.2.2.1, z.2.2.2⟩), (have z := He.exc_ok (c.fact 4 (f := .exc "NoField") rfl); ⟨He.glo_ok X G (c.fact 1 (f := .glo "NoField") rfl), z.1, z.2.1, z.2.2.1, z.2.2.2⟩), He.glo_ok X G (c.fact 0 (f := .glo "NoCard") rfl), He.glo_ok X G (c.fact 1 (f := .glo "NoField") rfl), He.glo_ok X G (c.fact 2 (f := .glo "SnatchError") rfl), cx⟩
  have b := FunD.bindsA (ps := ["_law_script"]) F_law fun _ _ _ _ _ _ us hl => match us, hl with | [_], _ => rfl
  refine ⟨fd_law, fun s v => b s [v] rfl, fun base _ _ => ?_⟩
  have D_law_numbers : DefAt P w K mg base "_law_numbers" 1 ["_law_script", "_law_many"] (spF (sp2 (aE K) (aE K) (aE K) f_law_numbers)) := defAt (x := "_law_numbers") (qual := "_law_numbers") (st := s_law_numbers) F_law_numbers g_law_numbers (ok_law_numbers F_law_numbers T ) fun _ _ _ _ _ _ us hl => match us, hl with | [_, _], _ => rfl
  have D_law_same : DefAt P w K mg base "_law_same" 9 ["_law_found", "_law_due"] (spF (S_same K 9)) := defAt (x := "_law_same") (qual := "_law_same") (st := s_law_same) F_law_same g_law_same (ok_law_same F_law_same T g_law_same 9) fun _ _ _ _ _ _ us hl => match us, hl with | [_, _], _ => rfl
  have D_law_sound : DefAt P w K mg base "_law_sound" 1 ["_law_number"] (spF (sp1 (aE K) (aE K) f_law_sound)) := defAt (x := "_law_sound") (qual := "_law_sound") (st := s_law_sound) F_law_sound g_law_sound (ok_law_sound F_law_sound T ) fun _ _ _ _ _ _ us hl => match us, hl with | [_], _ => rfl
  have D_law_pool : DefAt P w K mg base "_law_pool" 2 ["_law_d"] (spF (sp1 (aE K) (aE K) f_law_pool)) := defAt (x := "_law_pool") (qual := "_law_pool") (st := s_law_pool) F_law_pool g_law_pool (ok_law_pool F_law_pool T D_law_sound) fun _ _ _ _ _ _ us hl => match us, hl with | [_], _ => rfl
  have D_law_alike : DefAt P w K mg base "_law_alike" 1 ["_law_one", "_law_other"] (spF (sp2 (aE K) (aE K) (aE K) f_law_alike)) := defAt (x := "_law_alike") (qual := "_law_alike") (st := s_law_alike) F_law_alike g_law_alike (ok_law_alike F_law_alike T ) fun _ _ _ _ _ _ us hl => match us, hl with | [_, _], _ => rfl
  have D_law_verse : DefAt P w K mg base "_law_verse" 1 ["_law_verses", "_law_pool_here", "_law_d"] (spF (sp3 (aE K) (aE K) (aE K) (aE K) f_law_verse)) := defAt (x := "_law_verse") (qual := "_law_verse") (st := s_law_verse) F_law_verse g_law_verse (ok_law_verse F_law_verse T ) fun _ _ _ _ _ _ us hl => match us, hl with | [_, _, _], _ => rfl
  have D_law_wide : DefAt P w K mg base "_law_wide" 1 ["_law_d", "_law_size"] (spF (sp2 (aE K) (aE K) (aE K) f_law_wide)) := defAt (x := "_law_wide") (qual := "_law_wide") (st := s_law_wide) F_law_wide g_law_wide (ok_law_wide F_law_wide T ) fun _ _ _ _ _ _ us hl => match us, hl with | [_, _], _ => rfl
  have D_law_book : DefAt P w K mg base "_law_book" 3 ["_law_d", "_law_most"] (spF (sp2 (aE K) (aE K) (aE K) f_law_book)) := defAt (x := "_law_book") (qual := "_law_book") (st := s_law_book) F_law_book g_law_book (ok_law_book F_law_book T D_law_pool D_law_alike D_law_verse D_law_wide) fun _ _ _ _ _ _ us hl => match us, hl with | [_, _], _ => rfl
  have D_law_copy : DefAt P w K mg base "_law_copy" 1 ["_law_rows"] (spF (sp1 (aE K) (aE K) f_law_copy)) := defAt (x := "_law_copy") (qual := "_law_copy") (st := s_law_copy) F_law_copy g_law_copy (ok_law_copy F_law_copy T ) fun _ _ _ _ _ _ us hl => match us, hl with | [_], _ => rfl
  have D_is_syllable : DefAt P w K mg base "is_syllable" 1 ["text"] (spF (sp1 (aE K) (aE K) f_is_syllable)) := defAt (x := "is_syllable") (qual := "is_syllable") (st := s_is_syllable) F_is_syllable g_is_syllable (ok_is_syllable F_is_syllable T ) fun _ _ _ _ _ _ us hl => match us, hl with | [_], _ => rfl
  have D_is_verse : DefAt P w K mg base "is_verse" 2 ["syllables"] (spF (sp1 (aE K) (aE K) f_is_verse)) := defAt (x := "is_verse") (qual := "is_verse") (st := s_is_verse) F_is_verse g_is_verse (ok_is_verse F_is_verse T D_is_syllable) fun _ _ _ _ _ _ us hl => match us, hl with | [_], _ => rfl
  have D_begins : DefAt P w K mg base "begins" 1 ["one", "other"] (spF (sp2 (aE K) (aE K) (aE K) f_begins)) := defAt (x := "begins") (qual := "begins") (st := s_begins) F_begins g_begins (ok_begins F_begins T ) fun _ _ _ _ _ _ us hl => match us, hl with | [_, _], _ => rfl
  have D_check_rows : DefAt P w K mg base "check_rows" 3 ["rows"] (spF (sp1 (aE K) (aE K) f_check_rows)) := defAt (x := "check_rows") (qual := "check_rows") (st := s_check_rows) F_check_rows g_check_rows (ok_check_rows F_check_rows T D_is_verse D_begins) fun _ _ _ _ _ _ us hl => match us, hl with | [_], _ => rfl
  have D_Book___init__ : MkAt P w K mg base "Book" (cBook K) 4 ["self", "verses"] (spI (si1 (aE K) (oBook K) f_Book___init__) (cBook K)) := mkAt (x := "__init__") (qual := "Book.__init__") (st := s_Book___init__) F_Book___init__ (He.mkr_ok (c.fact 64 (f := .mkr "Book") rfl)) (He.glo_ok X G (c.fact 32 (f := .glo "Book") rfl)) (ok_Book___init__ F_Book___init__ T D_check_rows) fun _ _ _ _ _ _ us hl => match us, hl with | [_, _], _ => rfl
  have D_Book_many : MethAt P w K mg base (cBook K) "many" 1 ["self"] (spF (sp1 (aBook K) (aE K) f_Book_many)) := methAt (x := "many") (qual := "Book.many") (st := s_Book_many) F_Book_many T.c_Book (He.meth_ok (c.fact 58 (f := .meth "Book" "many") rfl)) (ok_Book_many F_Book_many T ) fun _ _ _ _ _ _ us hl => match us, hl with | [_], _ => rfl
  have D_check_verse : DefAt P w K mg base "check_verse" 2 ["book", "number"] (spF (sp2 (aBook K) (aE K) (aE K) f_check_verse)) := defAt (x := "check_verse") (qual := "check_verse") (st := s_check_verse) F_check_verse g_check_verse (ok_check_verse F_check_verse T D_Book_many) fun _ _ _ _ _ _ us hl => match us, hl with | [_, _], _ => rfl
  have D_Book_verse : MethAt P w K mg base (cBook K) "verse" 3 ["self", "number"] (spF (sp2 (aBook K) (aE K) (aE K) f_Book_verse)) := methAt (x := "verse") (qual := "Book.verse") (st := s_Book_verse) F_Book_verse T.c_Book (He.meth_ok (c.fact 59 (f := .meth "Book" "verse") rfl)) (ok_Book_verse F_Book_verse T D_check_verse) fun _ _ _ _ _ _ us hl => match us, hl with | [_, _], _ => rfl
  have D_law_copy_I : DefAt P w K mg base "_law_copy" 1 ["_law_rows"] (spF (sp1 (aE K) (aE K) f_law_copy_I)) := defAt (x := "_law_copy") (qual := "_law_copy") (st := s_law_copy_I) F_law_copy g_law_copy (ok_law_copy_I F_law_copy T ) fun _ _ _ _ _ _ us hl => match us, hl with | [_], _ => rfl
  have D_copied : DefAt P w K mg base "copied" 1 ["rows"] (spF (sp1 (aE K) (aE K) f_copied)) := defAt (x := "copied") (qual := "copied") (st := s_copied) F_copied g_copied (ok_copied F_copied T ) fun _ _ _ _ _ _ us hl => match us, hl with | [_], _ => rfl
  have D_check_fields : DefAt P w K mg base "check_fields" 2 ["book", "fields"] (spF (sp2 (aBook K) (aE K) (aE K) f_check_fields)) := defAt (x := "check_fields") (qual := "check_fields") (st := s_check_fields) F_check_fields g_check_fields (ok_check_fields F_check_fields T D_Book_many) fun _ _ _ _ _ _ us hl => match us, hl with | [_, _], _ => rfl
  have D_Deal___init__ : MkAt P w K mg base "Deal" (cDeal K) 3 ["self", "book", "zero", "one"] (spIR (si3 (aBook K) (aE K) (aE K) (oDeal K) f_Deal___init__) (cDeal K)) := mkAt (x := "__init__") (qual := "Deal.__init__") (st := s_Deal___init__) F_Deal___init__ (He.mkr_ok (c.fact 65 (f := .mkr "Deal") rfl)) (He.glo_ok X G (c.fact 33 (f := .glo "Deal") rfl)) (ok_Deal___init__ F_Deal___init__ T D_copied D_check_fields) fun _ _ _ _ _ _ us hl => match us, hl with | [_, _, _, _], _ => rfl
  have D_Deal_book : MethAt P w K mg base (cDeal K) "book" 1 ["self"] (spR (sp1 (aDeal K) (aBook K) f_Deal_book)) := methAt (x := "book") (qual := "Deal.book") (st := s_Deal_book) F_Deal_book T.c_Deal (He.meth_ok (c.fact 60 (f := .meth "Deal" "book") rfl)) (ok_Deal_book F_Deal_book T ) fun _ _ _ _ _ _ us hl => match us, hl with | [_], _ => rfl
  have D_check_field : DefAt P w K mg base "check_field" 1 ["field"] (spF (sp1 (aE K) (aE K) f_check_field)) := defAt (x := "check_field") (qual := "check_field") (st := s_check_field) F_check_field g_check_field (ok_check_field F_check_field T ) fun _ _ _ _ _ _ us hl => match us, hl with | [_], _ => rfl
  have D_Deal_rows : MethAt P w K mg base (cDeal K) "rows" 2 ["self", "field"] (spF (sp2 (aDeal K) (aE K) (aE K) f_Deal_rows)) := methAt (x := "rows") (qual := "Deal.rows") (st := s_Deal_rows) F_Deal_rows T.c_Deal (He.meth_ok (c.fact 61 (f := .meth "Deal" "rows") rfl)) (ok_Deal_rows F_Deal_rows T D_copied D_check_field) fun _ _ _ _ _ _ us hl => match us, hl with | [_, _], _ => rfl
  have D_Deal_cards : MethAt P w K mg base (cDeal K) "cards" 3 ["self", "field"] (spF (sp2 (aDeal K) (aE K) (aE K) f_Deal_cards)) := methAt (x := "cards") (qual := "Deal.cards") (st := s_Deal_cards) F_Deal_cards T.c_Deal (He.meth_ok (c.fact 62 (f := .meth "Deal" "cards") rfl)) (ok_Deal_cards F_Deal_cards T D_Deal_rows) fun _ _ _ _ _ _ us hl => match us, hl with | [_, _], _ => rfl
  have D_check_row : DefAt P w K mg base "check_row" 3 ["deal", "field", "row"] (spF (sp3 (aDeal K) (aE K) (aE K) (aE K) f_check_row)) := defAt (x := "check_row") (qual := "check_row") (st := s_check_row) F_check_row g_check_row (ok_check_row F_check_row T D_Deal_rows) fun _ _ _ _ _ _ us hl => match us, hl with | [_, _, _], _ => rfl
  have D_check_sweep : DefAt P w K mg base "check_sweep" 4 ["deal", "sweep"] (spF (sp2 (aDeal K) (aE K) (aE K) f_check_sweep)) := defAt (x := "check_sweep") (qual := "check_sweep") (st := s_check_sweep) F_check_sweep g_check_sweep (ok_check_sweep F_check_sweep T D_Deal_rows D_check_row) fun _ _ _ _ _ _ us hl => match us, hl with | [_, _], _ => rfl
  have D_Deal_swept : MethAt P w K mg base (cDeal K) "swept" 5 ["self", "sweep"] (spF (sp2 (aDeal K) (aE K) (aE K) f_Deal_swept)) := methAt (x := "swept") (qual := "Deal.swept") (st := s_Deal_swept) F_Deal_swept T.c_Deal (He.meth_ok (c.fact 63 (f := .meth "Deal" "swept") rfl)) (ok_Deal_swept F_Deal_swept T D_check_sweep) fun _ _ _ _ _ _ us hl => match us, hl with | [_, _], _ => rfl
  have D_check_field_x : DefAtX P w K mg base "check_field" 1 ["field"] (spX (sx1 K (aE K) (aE K) f_check_field_x)) := defAtX (x := "check_field") (qual := "check_field") (st := s_check_field_x) F_check_field g_check_field (ok_check_field_x F_check_field T ) fun _ _ _ _ _ _ us hl => match us, hl with | [_], _ => rfl
  have D_Deal_rows_x : MethAtX P w K mg base (cDeal K) "rows" 2 ["self", "field"] (spX (sx2 K (aDeal K) (aE K) (aE K) f_Deal_rows_x)) := methAtX (x := "rows") (qual := "Deal.rows") (st := s_Deal_rows_x) F_Deal_rows T.c_Deal (He.meth_ok (c.fact 61 (f := .meth "Deal" "rows") rfl)) (ok_Deal_rows_x F_Deal_rows T D_copied D_check_field_x) fun _ _ _ _ _ _ us hl => match us, hl with | [_, _], _ => rfl
  have D_check_row_x : DefAtX P w K mg base "check_row" 3 ["deal", "field", "row"] (spX (sx3 K (aDeal K) (aE K) (aE K) (aE K) f_check_row_x)) := defAtX (x := "check_row") (qual := "check_row") (st := s_check_row_x) F_check_row g_check_row (ok_check_row_x F_check_row T D_Deal_rows_x) fun _ _ _ _ _ _ us hl => match us, hl with | [_, _, _], _ => rfl
  have D_check_sweep_x : DefAtX P w K mg base "check_sweep" 4 ["deal", "sweep"] (spX (sx2 K (aDeal K) (aE K) (aE K) f_check_sweep_x)) := defAtX (x := "check_sweep") (qual := "check_sweep") (st := s_check_sweep_x) F_check_sweep g_check_sweep (ok_check_sweep_x F_check_sweep T D_Deal_rows D_check_row_x) fun _ _ _ _ _ _ us hl => match us, hl with | [_, _], _ => rfl
  have D_Deal_swept_x : MethAtX P w K mg base (cDeal K) "swept" 5 ["self", "sweep"] (spX (sx2 K (aDeal K) (aE K) (aEo K) f_Deal_swept_x)) := methAtX (x := "swept") (qual := "Deal.swept") (st := s_Deal_swept_x) F_Deal_swept T.c_Deal (He.meth_ok (c.fact 63 (f := .meth "Deal" "swept") rfl)) (ok_Deal_swept_x F_Deal_swept T D_check_sweep_x) fun _ _ _ _ _ _ us hl => match us, hl with | [_, _], _ => rfl
  have D_law_fields : DefAt P w K mg base "_law_fields" 1 ["_law_many", "_law_d"] (spF (sp2 (aE K) (aE K) (aE K) f_law_fields)) := defAt (x := "_law_fields") (qual := "_law_fields") (st := s_law_fields) F_law_fields g_law_fields (ok_law_fields F_law_fields T ) fun _ _ _ _ _ _ us hl => match us, hl with | [_, _], _ => rfl
  have D_law_made : DefAt P w K mg base "_law_made" 5 ["_law_book_here", "_law_rows"] (spR (sp2 (aBook K) (aE K) (aDeal K) f_law_made)) := defAt (x := "_law_made") (qual := "_law_made") (st := s_law_made) F_law_made g_law_made (ok_law_made F_law_made T D_law_copy_I D_Deal___init__) fun _ _ _ _ _ _ us hl => match us, hl with | [_, _], _ => rfl
  have D_law_sweeps : DefAt P w K mg base "_law_sweeps" 1 ["_law_rows"] (spF (sp1 (aE K) (aE K) f_law_sweeps)) := defAt (x := "_law_sweeps") (qual := "_law_sweeps") (st := s_law_sweeps) F_law_sweeps g_law_sweeps (ok_law_sweeps F_law_sweeps T ) fun _ _ _ _ _ _ us hl => match us, hl with | [_], _ => rfl
  have D_law_touched : DefAt P w K mg base "_law_touched" 1 ["_law_rows", "_law_sweep"] (spF (sp2 (aE K) (aE K) (aE K) f_law_touched)) := defAt (x := "_law_touched") (qual := "_law_touched") (st := s_law_touched) F_law_touched g_law_touched (ok_law_touched F_law_touched T ) fun _ _ _ _ _ _ us hl => match us, hl with | [_, _], _ => rfl
  have D_law_sweep_bad : DefAt P w K mg base "_law_sweep_bad" 1 ["_law_rows", "_law_sweep"] (spF (sp2 (aE K) (aE K) (aE K) f_law_sweep_bad)) := defAt (x := "_law_sweep_bad") (qual := "_law_sweep_bad") (st := s_law_sweep_bad) F_law_sweep_bad g_law_sweep_bad (ok_law_sweep_bad F_law_sweep_bad T ) fun _ _ _ _ _ _ us hl => match us, hl with | [_, _], _ => rfl
  have D_law_wild : DefAt P w K mg base "_law_wild" 2 ["_law_rows", "_law_d"] (spF (sp2 (aE K) (aE K) (aE K) f_law_wild)) := defAt (x := "_law_wild") (qual := "_law_wild") (st := s_law_wild) F_law_wild g_law_wild (ok_law_wild F_law_wild T D_law_sweeps) fun _ _ _ _ _ _ us hl => match us, hl with | [_, _], _ => rfl
  have D_law_tried : DefAt P w K mg base "_law_tried" 6 ["_law_deal", "_law_sweep"] (spF (sp2 (aDeal K) (aE K) (aTO K) f_law_tried)) := defAt (x := "_law_tried") (qual := "_law_tried") (st := s_law_tried) F_law_tried g_law_tried (ok_law_tried F_law_tried T D_Deal_swept_x) fun _ _ _ _ _ _ us hl => match us, hl with | [_, _], _ => rfl
  exact ok_law F_law T D_law_numbers D_law_same D_law_book D_law_copy D_Book___init__ D_Deal_swept D_law_fields D_law_made D_law_sweeps D_law_touched D_law_sweep_bad D_law_wild D_law_tried law_true
end Kj
open PySem PySem.W PySem.Calls PyProof.Rows
theorem PySem.Challenge.cw_kimariji_k15_sweeps_touch_holds : PySem.Challenge.rw_kimariji_k15_sweeps_touch.Holds := by
  w_on; o_law
  refine HandSHeadRun.head_any (r := OpenLaw.row PySem.Challenge.rw_kimariji_k15_sweeps_touch) (q := view (OpenLaw.row PySem.Challenge.rw_kimariji_k15_sweeps_touch).prog [46]) (H := Kj.hk) (ob := Kj.ob) (M := 8000) (loose := ("SnatchError" :: "BadBook" :: "BadVerse" :: "Alike" :: "NoVerse" :: "BadDeal" :: "NoField" :: "NoCard" :: "Book" :: "Deal" :: "_wall" :: "check_rows" :: "is_verse" :: "is_syllable" :: "begins" :: "check_verse" :: "copied" :: "check_fields" :: "check_field" :: "check_row" :: "check_sweep" :: "_law_numbers" :: ["_law_same", "_law_sound", "_law_pool", "_law_alike", "_law_verse", "_law_wide", "_law_book", "_law_copy", "_law_fields", "_law_made", "_law_sweeps", "_law_touched", "_law_sweep_bad", "_law_wild", "_law_tried", "MOST_VERSES", "MOST_SYLLABLES", "MOST_LETTERS", "MOST_ROWS", "MOST_CARDS"] : List PySem.Str)) (d := HandSHeadRun.topDef (OpenLaw.row PySem.Challenge.rw_kimariji_k15_sweeps_touch).prog 46) (kwd := []) Kj.ob_eq
    (by kernel_rfl) (fun s => by kernel_rfl) Kj.run (by kernel_rfl) (by kernel_rfl) (by kernel_rfl) (by rfl) (by first | assumption | decide +kernel) (by decide +kernel) ⟨rfl, rfl, rfl, rfl, rfl, by decide +kernel⟩ ?hw ?hc
  case hw => w_witness2
  case hc =>
    refine L2.walk_ofE (l := PySem.Challenge.rw_kimariji_k15_sweeps_touch) (n := 63) (k := 10) (x := "_law_script") (CX := L2.CX0) rfl (by decide) (by kernel_rfl) ⟨rfl, by decide, by decide⟩ ?F (fun _ _ _ _ z => z)
    intro w mg fa h Y G hmg0
    obtain ⟨K, KX, c, cx⟩ := Y
    have hmg : mg ("law" : PySem.Str) = some (.ref fa) := by
      have e : (HandSHeadRun.topDef (OpenLaw.row PySem.Challenge.rw_kimariji_k15_sweeps_touch).prog 46).name = ("law" : PySem.Str) := by kernel_rfl
      rw [← e]
      exact hmg0
    obtain ⟨fd, hb, hF⟩ := Kj.facts (P := (PySem.Challenge.rw_kimariji_k15_sweeps_touch).prog) (w := w) KX G hmg c cx
    exact ⟨K, fd, Kj.spL K, KX, hb, fun H a ns hl _ hS => ⟨a, ns, rfl, hS, hl, fun _ => rfl⟩, hF⟩
