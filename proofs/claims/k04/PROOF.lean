import PyProof.Rows.All
import Wide.All
import OpenK.AllK
import Wide.FinOn
import HandS.ForMost
import HandS.ForExc
import HandS.Wide
import HandS.IsInst
import HandS.Flow
import PyProof.StrBlock2
import HandS.Defaults
import HandS.Head0
import HandS.Head1
import HandS.Head2
import HandS.HeadEnd
import HandS.HeadHook1
import HandS.HeadHook2
import HandS.TryMany
import KE.DataEq
import HandS.Style
import HandS.Zip
import HandS.Strs
import HandS.SetFor
import HandS.SortInts
import HandS.Conv
import HandS.ListItems
import KE.KDictZip
import KE.KTurns
import HandS.SortKw
import KE.DataMinMax
import HandS.DictTup
import HandS.Deep
import HandS.TupAny
import HandS.Dict
import HandS.DictComp
import PyProof.DictUpdate
import HandS.Exc
import HandS.ExcField
import HandS.ExcInit
import HandS.Text
import PySem.Challenge.RW_kimariji_k04_books_refused
set_option Elab.async false
set_option linter.all false
set_option maxRecDepth 100000
set_option maxHeartbeats 4000000
/-! Kj: a layer of data over HandS: what a reading gives, as data, whatever the heap. -/
namespace Kj
open PySem L2
/-! ### heaps -/
def mns (H H0 : Hp) : Hp := fun a => match H0 a with | none => H a | some _ => none
theorem mns_some {H H0 : Hp} {a : Addr} {o : HO} : mns H H0 a = some o ↔ H0 a = none ∧ H a = some o := by
  unfold mns; cases h : H0 a <;> simp
theorem mns_mono {H H' : Hp} (H0 : Hp) (s : Same H H') : Same (mns H H0) (mns H' H0) := fun a o h => by
  rw [mns_some] at h ⊢; exact ⟨h.1, s _ _ h.2⟩
theorem mns_sub {H H0 : Hp} : Same (mns H H0) H := fun a o h => (mns_some.mp h).2
theorem seqT {K : PySem.W.Frag} {H H' : Hp} {a : Addr} {xs : List V} (e : Same H H') (h : SqT K H a xs) : SqT K H' a xs := by
  rcases h with (h | ⟨o, h⟩) | h
  · exact .inl (.inl (e _ _ h))
  · exact .inl (.inr ⟨o, e _ _ h⟩)
  · exact .inr h
mutual
theorem dp_mono {K : PySem.W.Frag} {H H' : Hp} (s : Same H H') : ∀ (d : PyData) (v : V), Dp K H v d → Dp K H' v d
  | .none, _, h => by cases h; exact .non
  | .bool b, _, h => by cases h; exact .bl b
  | .int i, _, h => by cases h; exact .int i
  | .str x, _, h => by cases h; exact .str x
  | .list ds, _, h => by
    cases h with
    | lst hs ha => exact .lst (s.seq hs) (dpa_mono s ds _ ha)
  | .tuple ds, _, h => by
    cases h with
    | tup hs ha => exact .tup (seqT s hs) (dpa_mono s ds _ ha)
  | .dict _, _, h => by cases h
theorem dpa_mono {K : PySem.W.Frag} {H H' : Hp} (s : Same H H') : ∀ (ds : List PyData) (vs : List V), DpAll K H vs ds → DpAll K H' vs ds
  | [], _, h => by cases h; exact .nil
  | d :: ds, _, h => by
    cases h with
    | cons h1 h2 => exact .cons (dp_mono s d _ h1) (dpa_mono s ds _ h2)
end
structure Abs where
  p : V → Hp → Prop
  mono : ∀ (v : V) (H H' : Hp), Same H H' → p v H → p v H'
structure AbsO where
  p : Addr → HO → Hp → Prop
  mono : ∀ (a : Addr) (o : HO) (H H' : Hp), Same H H' → p a o H → p a o H'
inductive Slot where
  | no
  | dat (A : Abs)
  | new (A : Abs)
  | own (B : AbsO)
  | reg (A : Abs)
def aD (K : PySem.W.Frag) (d : PyData) : Abs := ⟨fun v H => Dp K H v d, fun v _ _ s h => dp_mono s d v h⟩
def hp (f : Bool) (Hr H0 : Hp) : Hp := match f with | true => mns Hr H0 | false => Hr
def sl : Bool → Abs → Slot
  | true, A => .new A
  | false, A => .dat A
theorem hp_mono (f : Bool) {H H' : Hp} (H0 : Hp) (s : Same H H') : Same (hp f H H0) (hp f H' H0) := by
  cases f
  · exact s
  · exact mns_mono H0 s
theorem hp_sub (f : Bool) {H H0 : Hp} : Same (hp f H H0) H := by
  cases f
  · exact Same.refl _
  · exact mns_sub
def SlotOk (H0 H Hr : Hp) (σ : St) (i : Nat) : Slot → Prop
  | .no => True
  | .dat A => ∃ v, σ[i]? = some (some v) ∧ A.p v Hr
  | .new A => ∃ v, σ[i]? = some (some v) ∧ A.p v (mns Hr H0)
  | .own B => ∃ p o, σ[i]? = some (some (.ref p)) ∧ H0 p = none ∧ Hr p = none ∧ H p = some o ∧ B.p p o (mns Hr H0)
  | .reg _ => True
/-- what is new as a whole, and outside of what is kept: its own part of the heap -/
def RegOk (H0 H Hr : Hp) (σ : St) (ρ : List Slot) : Prop := ∃ Gs : Nat → Hp,
  (∀ (i : Nat) (A : Abs), ρ[i]? = some (Slot.reg A) → (∃ v, σ[i]? = some (some v) ∧ A.p v (Gs i)) ∧ ∀ (a : Addr) (o : HO), Gs i a = some o → H a = some o ∧ Hr a = none ∧ H0 a = none) ∧
  (∀ (i j : Nat) (A A' : Abs), i ≠ j → ρ[i]? = some (Slot.reg A) → ρ[j]? = some (Slot.reg A') → ∀ (a : Addr) (o : HO), Gs i a = some o → Gs j a = none) ∧
  (∀ (i j : Nat) (A : Abs) (B : AbsO) (p : Addr), ρ[i]? = some (Slot.reg A) → ρ[j]? = some (Slot.own B) → σ[j]? = some (some (V.ref p)) → Gs i p = none)
theorem RegOk.nil {H0 H Hr : Hp} {σ : St} {ρ : List Slot} (h : ∀ (i : Nat) (A : Abs), ρ[i]? ≠ some (Slot.reg A)) : RegOk H0 H Hr σ ρ :=
  ⟨fun _ _ => none, fun i A e => absurd e (h i A), fun i _ A _ _ e => absurd e (h i A), fun i _ A _ _ e => absurd e (h i A)⟩
theorem RegOk.to {H0 H Hr H0' H' Hr' : Hp} {σ σ' : St} {ρ ρ' : List Slot} (R : RegOk H0 H Hr σ ρ)
    (hreg : ∀ (i : Nat) (A : Abs), ρ'[i]? = some (Slot.reg A) → ρ[i]? = some (Slot.reg A) ∧ σ'[i]? = σ[i]?)
    (hc : ∀ (a : Addr) (o : HO), H a = some o → Hr a = none → H0 a = none → (∀ (j : Nat) (B : AbsO), ρ[j]? = some (Slot.own B) → σ[j]? = some (some (V.ref a)) → False) → H' a = some o ∧ Hr' a = none ∧ H0' a = none)
    (hown : ∀ (j : Nat) (B : AbsO) (p : Addr), ρ'[j]? = some (Slot.own B) → σ'[j]? = some (some (V.ref p)) → (∃ B', ρ[j]? = some (Slot.own B') ∧ σ[j]? = some (some (V.ref p))) ∨ H p = none ∨ Hr p ≠ none ∨ H0 p ≠ none) : RegOk H0' H' Hr' σ' ρ' := by
  obtain ⟨Gs, h1, h2, h3⟩ := R
  refine ⟨Gs, fun i A e => ?_, fun i j A A' n e e' => h2 i j A A' n (hreg i A e).1 (hreg j A' e').1, fun i j A B p e e' es => ?_⟩
  · obtain ⟨r1, r2⟩ := hreg i A e
    obtain ⟨⟨v, g1, g2⟩, g3⟩ := h1 i A r1
    refine ⟨⟨v, by rw [r2]; exact g1, g2⟩, fun a o q => ?_⟩
    obtain ⟨q1, q2, q3⟩ := g3 a o q
    exact hc a o q1 q2 q3 fun j B hj hs => by rw [h3 i j A B a r1 hj hs] at q; cases q
  · have r1 := (hreg i A e).1
    obtain ⟨_, g3⟩ := h1 i A r1
    rcases hown j B p e' es with ⟨B', z1, z2⟩ | z | z | z
    · exact h3 i j A B' p r1 z1 z2
    · cases q : Gs i p with
      | none => rfl
      | some o => rw [(g3 p o q).1] at z; cases z
    · cases q : Gs i p with
      | none => rfl
      | some o => exact absurd (g3 p o q).2.1 z
    · cases q : Gs i p with
      | none => rfl
      | some o => exact absurd (g3 p o q).2.2 z
theorem set_at {α : Type} {l : List α} {i j : Nat} {x y : α} (h : (l.set i x)[j]? = some y) : (j = i ∧ y = x) ∨ (j ≠ i ∧ l[j]? = some y) := by
  by_cases e : j = i
  · subst e
    by_cases hl : j < l.length
    · rw [List.getElem?_set_self hl] at h; exact .inl ⟨rfl, (Option.some.inj h).symm⟩
    · rw [List.getElem?_eq_none (by rw [List.length_set]; omega)] at h; cases h
  · rw [List.getElem?_set_ne (Ne.symm e)] at h; exact .inr ⟨e, h⟩
/-- a slot that is set is neither -/
theorem RegOk.set1 {H0 H Hr H0' H' Hr' : Hp} {σ : St} {ρ : List Slot} (R : RegOk H0 H Hr σ ρ) {i : Nat} {s : Slot} {σ' : St} (hσ : ∀ j : Nat, j ≠ i → σ'[j]? = σ[j]?) (h1 : ∀ A, s ≠ .reg A) (h2 : ∀ B, s ≠ .own B)
    (hc : ∀ (a : Addr) (o : HO), H a = some o → Hr a = none → H0 a = none → (∀ (j : Nat) (B : AbsO), ρ[j]? = some (Slot.own B) → σ[j]? = some (some (V.ref a)) → False) → H' a = some o ∧ Hr' a = none ∧ H0' a = none) : RegOk H0' H' Hr' σ' (ρ.set i s) :=
  R.to (fun j A h => by
    rcases set_at h with ⟨_, e⟩ | ⟨n, e⟩
    · exact absurd e.symm (h1 A)
    · exact ⟨e, hσ j n⟩) hc (fun j B p h hs => by
    rcases set_at h with ⟨_, e⟩ | ⟨n, e⟩
    · exact absurd e.symm (h2 B)
    · exact .inl ⟨B, e, by rw [← hσ j n]; exact hs⟩)
/-- a slot that is set to an own one -/
theorem RegOk.setO {H0 H Hr H0' H' Hr' : Hp} {σ : St} {ρ : List Slot} (R : RegOk H0 H Hr σ ρ) {i : Nat} {B : AbsO} {σ' : St} {p : Addr} (hσ : ∀ j : Nat, j ≠ i → σ'[j]? = σ[j]?) (hp : σ'[i]? = some (some (.ref p)))
    (hc : ∀ (a : Addr) (o : HO), H a = some o → Hr a = none → H0 a = none → (∀ (j : Nat) (B : AbsO), ρ[j]? = some (Slot.own B) → σ[j]? = some (some (V.ref a)) → False) → H' a = some o ∧ Hr' a = none ∧ H0' a = none)
    (ho : (∃ B', ρ[i]? = some (Slot.own B') ∧ σ[i]? = some (some (V.ref p))) ∨ H p = none ∨ Hr p ≠ none ∨ H0 p ≠ none) : RegOk H0' H' Hr' σ' (ρ.set i (.own B)) :=
  R.to (fun j A h => by
    rcases set_at h with ⟨_, e⟩ | ⟨n, e⟩
    · cases e
    · exact ⟨e, hσ j n⟩) hc (fun j B p' h hs => by
    rcases set_at h with ⟨z, e⟩ | ⟨n, e⟩
    · subst z; rw [hp] at hs; cases hs; exact ho
    · exact .inl ⟨B, e, by rw [← hσ j n]; exact hs⟩)
structure EnvOk (H0 : Hp) (σ : St) (ρ : List Slot) (H Hr : Hp) : Prop where
  base : Same H0 H
  sub : Same Hr H
  len : σ.length = ρ.length
  slot : ∀ (i : Nat) (s : Slot), ρ[i]? = some s → SlotOk H0 H Hr σ i s
  dis : ∀ (i j : Nat) (p : Addr) (B B' : AbsO), i ≠ j → ρ[i]? = some (Slot.own B) → ρ[j]? = some (Slot.own B') → σ[i]? = some (some (V.ref p)) → σ[j]? = some (some (V.ref p)) → False
  reg : RegOk H0 H Hr σ ρ
structure Ext (H Hr H' Hr' : Hp) : Prop where
  h : Same H H'
  r : Same Hr Hr'
  s : Same Hr' H'
  n : ∀ a o, Hr' a = some o → Hr a = none → H a = none
theorem Ext.refl {H Hr : Hp} (s : Same Hr H) : Ext H Hr H Hr := ⟨Same.refl _, Same.refl _, s, fun a o h h' => by rw [h] at h'; cases h'⟩
theorem Ext.trans {H Hr H1 Hr1 H2 Hr2 : Hp} (x : Ext H Hr H1 Hr1) (y : Ext H1 Hr1 H2 Hr2) : Ext H Hr H2 Hr2 :=
  ⟨x.h.trans y.h, x.r.trans y.r, y.s, fun a o h h' => by
    cases q : Hr1 a with
    | none => exact x.h.free (y.n a o h q)
    | some u => exact x.n a u q h'⟩
theorem Ext.out {H Hr H' Hr' : Hp} (x : Ext H Hr H' Hr') {a : Addr} {o : HO} (h : H a = some o) (h' : Hr a = none) : Hr' a = none := by
  cases q : Hr' a with
  | none => rfl
  | some u => have := x.n a u q h'; rw [h] at this; cases this
theorem EnvOk.ext {H0 : Hp} {σ : St} {ρ : List Slot} {H Hr H' Hr' : Hp} (E : EnvOk H0 σ ρ H Hr) (x : Ext H Hr H' Hr') : EnvOk H0 σ ρ H' Hr' := by
  refine ⟨E.base.trans x.h, x.s, E.len, fun i s hs => ?_, E.dis, E.reg.to (fun i A h => ⟨h, rfl⟩) (fun a o h1 h2 h3 _ => ⟨x.h _ _ h1, x.out h1 h2, h3⟩) fun j B p h1 h2 => .inl ⟨B, h1, h2⟩⟩
  have h := E.slot i s hs
  cases s with
  | no => trivial
  | reg A => trivial
  | dat A => obtain ⟨v, e, a⟩ := h; exact ⟨v, e, A.mono _ _ _ x.r a⟩
  | new A => obtain ⟨v, e, a⟩ := h; exact ⟨v, e, A.mono _ _ _ (mns_mono _ x.r) a⟩
  | own B =>
    obtain ⟨p, o, e, h0, hr, hh, b⟩ := h
    refine ⟨p, o, e, h0, ?_, x.h _ _ hh, B.mono _ _ _ _ (mns_mono _ x.r) b⟩
    cases q : Hr' p with
    | none => rfl
    | some u => have := x.n p u q hr; rw [hh] at this; cases this
theorem EnvOk.set {H0 : Hp} {σ : St} {ρ : List Slot} {H Hr : Hp} (E : EnvOk H0 σ ρ H Hr) {i : Nat} {f : Bool} {A : Abs} {v : V} (hi : i < ρ.length) (h : A.p v (hp f Hr H0)) : EnvOk H0 (σ.set i (some v)) (ρ.set i (sl f A)) H Hr := by
  have hσ : i < σ.length := by rw [E.len]; exact hi
  have ne : ∀ (B : AbsO), sl f A ≠ .own B := by intro B; cases f <;> intro z <;> cases z
  refine ⟨E.base, E.sub, by simp [E.len], fun j s hs => ?_, fun j k p B B' hjk hj hk ej ek => ?_, E.reg.set1 (fun j n => List.getElem?_set_ne (Ne.symm n)) (fun A z => by cases f <;> cases z) (fun B z => ne B z) fun a o h1 h2 h3 _ => ⟨h1, h2, h3⟩⟩
  · by_cases hj : j = i
    · subst hj
      rw [List.getElem?_set_self hi] at hs
      have e := Option.some.inj hs
      subst e
      cases f
      · exact ⟨v, by rw [List.getElem?_set_self hσ], h⟩
      · exact ⟨v, by rw [List.getElem?_set_self hσ], h⟩
    · rw [List.getElem?_set_ne (Ne.symm hj)] at hs
      have := E.slot j s hs
      have e : (σ.set i (some v))[j]? = σ[j]? := List.getElem?_set_ne (Ne.symm hj)
      cases s with
      | no => trivial
      | reg A => trivial
      | dat A => unfold SlotOk at this ⊢; rw [e]; exact this
      | new A => unfold SlotOk at this ⊢; rw [e]; exact this
      | own B => unfold SlotOk at this ⊢; rw [e]; exact this
  · have h1 : j ≠ i := by
      rintro rfl
      rw [List.getElem?_set_self hi] at hj
      exact ne B (Option.some.inj hj)
    have h2 : k ≠ i := by
      rintro rfl
      rw [List.getElem?_set_self hi] at hk
      exact ne B' (Option.some.inj hk)
    rw [List.getElem?_set_ne (Ne.symm h1)] at hj ej
    rw [List.getElem?_set_ne (Ne.symm h2)] at hk ek
    exact E.dis j k p B B' hjk hj hk ej ek
/-- a new object that is the slot's own -/
theorem EnvOk.lay {H0 : Hp} {σ : St} {ρ : List Slot} {H Hr : Hp} (E : EnvOk H0 σ ρ H Hr) {i : Nat} {B : AbsO} {p : Addr} {o : HO} (hi : i < ρ.length) (hn : H p = none) (h : B.p p o (mns Hr H0)) :
    EnvOk H0 (σ.set i (some (.ref p))) (ρ.set i (.own B)) (upd H p o) Hr := by
  have hσ : i < σ.length := by rw [E.len]; exact hi
  have up : Same H (upd H p o) := fun a u e => by rw [upd_ne (ne_of_none e hn)]; exact e
  refine ⟨E.base.trans up, E.sub.trans up, by simp [E.len], fun j s hs => ?_, fun j k q B1 B2 hjk hj hk ej ek => ?_, E.reg.setO (fun j n => List.getElem?_set_ne (Ne.symm n)) (List.getElem?_set_self hσ) (fun a o h1 h2 h3 _ => ⟨up _ _ h1, h2, h3⟩) (.inr (.inl hn))⟩
  · by_cases hj : j = i
    · subst hj
      rw [List.getElem?_set_self hi] at hs
      have e := Option.some.inj hs
      subst e
      exact ⟨p, o, by rw [List.getElem?_set_self hσ], E.base.free hn, E.sub.free hn, upd_same, h⟩
    · rw [List.getElem?_set_ne (Ne.symm hj)] at hs
      have := E.slot j s hs
      have e : (σ.set i (some (.ref p)))[j]? = σ[j]? := List.getElem?_set_ne (Ne.symm hj)
      cases s with
      | no => trivial
      | reg A => trivial
      | dat A => unfold SlotOk at this ⊢; rw [e]; exact this
      | new A => unfold SlotOk at this ⊢; rw [e]; exact this
      | own B => unfold SlotOk at this ⊢; rw [e]; obtain ⟨q, u, e1, e2, e3, e4, e5⟩ := this; exact ⟨q, u, e1, e2, e3, up _ _ e4, e5⟩
  · have old : ∀ (j : Nat) (B1 : AbsO) (q : Addr), j ≠ i → ρ[j]? = some (.own B1) → σ[j]? = some (some (.ref q)) → q ≠ p := fun j B1 q hj h1 h2 => by
      obtain ⟨q', u, e1, _, _, e4, _⟩ := E.slot j _ h1
      rw [h2] at e1
      cases e1
      exact ne_of_none e4 hn
    by_cases h1 : j = i
    · subst h1
      rw [List.getElem?_set_self hσ] at ej
      cases ej
      have h2 : k ≠ j := Ne.symm hjk
      rw [List.getElem?_set_ne (Ne.symm h2)] at hk ek
      exact old k B2 p h2 hk ek rfl
    · rw [List.getElem?_set_ne (Ne.symm h1)] at hj ej
      by_cases h2 : k = i
      · subst h2
        rw [List.getElem?_set_self hσ] at ek
        cases ek
        exact old j B1 p h1 hj ej rfl
      · rw [List.getElem?_set_ne (Ne.symm h2)] at hk ek
        exact E.dis j k q B1 B2 hjk hj hk ej ek
/-- an own object is changed -/
theorem EnvOk.wr {H0 : Hp} {σ : St} {ρ : List Slot} {H Hr : Hp} (E : EnvOk H0 σ ρ H Hr) {i : Nat} {B B1 : AbsO} {p : Addr} {o : HO} (hi : ρ[i]? = some (.own B)) (hp : σ[i]? = some (some (.ref p))) (h : B1.p p o (mns Hr H0)) :
    EnvOk H0 σ (ρ.set i (.own B1)) (upd H p o) Hr := by
  have hl : i < ρ.length := (List.getElem?_eq_some_iff.mp hi).1
  obtain ⟨p', u, e1, e2, e3, e4, e5⟩ := E.slot i _ hi
  rw [hp] at e1
  cases e1
  have keep : ∀ (G : Hp), G p = none → Same G H → Same G (upd H p o) := fun G g s a v e => by rw [upd_ne (ne_of_none e g)]; exact s _ _ e
  refine ⟨keep _ e2 E.base, keep _ e3 E.sub, by simp [E.len], fun j s hs => ?_, fun j k q B2 B3 hjk hj hk ej ek => ?_, E.reg.setO (fun j n => rfl) hp (fun a o h1 h2 h3 h4 => ⟨by rw [upd_ne fun z => h4 i B hi (by rw [z]; exact hp)]; exact h1, h2, h3⟩) (.inl ⟨B, hi, hp⟩)⟩
  · by_cases hj : j = i
    · subst hj
      rw [List.getElem?_set_self hl] at hs
      have e := Option.some.inj hs
      subst e
      exact ⟨p, o, hp, e2, e3, upd_same, h⟩
    · rw [List.getElem?_set_ne (Ne.symm hj)] at hs
      have := E.slot j s hs
      cases s with
      | no => trivial
      | reg A => trivial
      | dat A => exact this
      | new A => exact this
      | own B4 =>
        obtain ⟨q, w, f1, f2, f3, f4, f5⟩ := this
        refine ⟨q, w, f1, f2, f3, ?_, f5⟩
        have : q ≠ p := fun z => by subst z; exact E.dis j i q B4 B hj hs hi f1 hp
        rw [upd_ne this]; exact f4
  · have back : ∀ (m : Nat) (B2 : AbsO), (ρ.set i (.own B1))[m]? = some (.own B2) → ∃ B3, ρ[m]? = some (.own B3) := fun m B2 hm => by
      by_cases z : m = i
      · subst z; exact ⟨B, hi⟩
      · rw [List.getElem?_set_ne (Ne.symm z)] at hm; exact ⟨B2, hm⟩
    obtain ⟨_, g1⟩ := back j B2 hj
    obtain ⟨_, g2⟩ := back k B3 hk
    exact E.dis j k q _ _ hjk g1 g2 ej ek
theorem Ext.lay {H Hr : Hp} (s : Same Hr H) {p : Addr} {o : HO} (hn : H p = none) : Ext H Hr (upd H p o) (upd Hr p o) := by
  refine ⟨fun a u e => by rw [upd_ne (ne_of_none e hn)]; exact e, fun a u e => by rw [upd_ne (ne_of_none e (s.free hn))]; exact e, fun a u e => ?_, fun a u e h => ?_⟩
  · by_cases z : a = p
    · subst z; rw [upd_same] at e ⊢; exact e
    · rw [upd_ne z] at e ⊢; exact s _ _ e
  · by_cases z : a = p
    · subst z; exact hn
    · rw [upd_ne z] at e; rw [h] at e; cases e
theorem hp_lay (f : Bool) {H0 H Hr : Hp} (b : Same H0 H) {p : Addr} {o : HO} (hn : H p = none) : hp f (upd Hr p o) H0 p = some o := by
  cases f
  · exact upd_same
  · exact mns_some.mpr ⟨b.free hn, upd_same⟩
/-- all readable data, and what is new since H1, over H2 -/
def joinH (Hr H1 H2 : Hp) : Hp := fun a => match Hr a with | some o => some o | none => mns H2 H1 a
theorem Ext.call {H Hr H1 H2 : Hp} (s : Same Hr H) (s1 : Same H H1) (s2 : Same H1 H2) : Ext H Hr H2 (joinH Hr H1 H2) := by
  refine ⟨s1.trans s2, fun a o e => by unfold joinH; rw [e], fun a o e => ?_, fun a o e h => ?_⟩
  · unfold joinH at e
    cases q : Hr a with
    | some u => rw [q] at e; cases e; exact s2 _ _ (s1 _ _ (s _ _ q))
    | none => rw [q] at e; exact (mns_some.mp e).2
  · unfold joinH at e
    rw [h] at e
    exact s1.free (mns_some.mp e).1
theorem joinH_new {H0 H Hr H1 H2 : Hp} (b : Same H0 H) (s : Same Hr H) (s1 : Same H H1) : Same (mns H2 H1) (mns (joinH Hr H1 H2) H0) := fun a o e => by
  have e' := mns_some.mp e
  refine mns_some.mpr ⟨b.free (s1.free e'.1), ?_⟩
  unfold joinH
  have : Hr a = none := s.free (s1.free e'.1)
  rw [this]
  exact e
/-! ### judgements -/
def DE (H0 : Hp) (ρ : List Slot) (t : TE) (f : Bool) (A : Abs) : Prop :=
  ∀ (σ : St) (H Hr : Hp) (Q : VK), EnvOk H0 σ ρ H Hr → (∀ v H' Hr', Ext H Hr H' Hr' → A.p v (hp f Hr' H0) → Q v H') → t σ H Q
def DT (K : PySem.W.Frag) (H0 : Hp) (ρ : List Slot) (t : TT) (b : Bool) : Prop :=
  ∀ (σ : St) (H Hr : Hp) (Q : Bool → Hp → Prop), EnvOk H0 σ ρ H Hr → (∀ H' Hr', Ext H Hr H' Hr' → Q b H') → t σ H Q
inductive AllP : List Abs → List V → Hp → Prop
  | nil {H : Hp} : AllP [] [] H
  | cons {A : Abs} {As : List Abs} {v : V} {vs : List V} {H : Hp} : A.p v H → AllP As vs H → AllP (A :: As) (v :: vs) H
theorem AllP.mono {H H' : Hp} (s : Same H H') : ∀ {As : List Abs} {vs : List V}, AllP As vs H → AllP As vs H'
  | _, _, .nil => .nil
  | _, _, .cons (A := A) h t => .cons (A.mono _ _ _ s h) (AllP.mono s t)
theorem AllP.length {H : Hp} : ∀ {As : List Abs} {vs : List V}, AllP As vs H → As.length = vs.length
  | _, _, .nil => rfl
  | _, _, .cons _ t => by simp [AllP.length t]
def DA (H0 : Hp) (ρ : List Slot) (t : TA) (f : Bool) (As : List Abs) : Prop :=
  ∀ (σ : St) (H Hr : Hp) (Q : List V → Hp → Prop), EnvOk H0 σ ρ H Hr → (∀ vs H' Hr', Ext H Hr H' Hr' → AllP As vs (hp f Hr' H0) → Q vs H') → t σ H Q
abbrev XA := Value → Option Addr → Hp → Prop
/-- what is asked of a way out by a raise, and what is known there -/
structure WZ where
  W : WX
  Z : List Slot → XA
def C0 : WZ := ⟨fun _ _ _ _ => False, fun _ _ _ _ => False⟩
def KR (H0 : Hp) (R : Abs) (rt : V → Hp → Prop) (Hr : Hp) : Prop := ∀ v H', Same H0 H' → Same Hr H' → R.p v (mns H' H0) → rt v H'
def KX (H0 : Hp) (C : WZ) (Hr : Hp) : Prop := ∀ ρ' σ' H' Hr' cls d, C.Z ρ' cls d H' → EnvOk H0 σ' ρ' H' Hr' → Same Hr Hr' → C.W cls d σ' H'
theorem KR.up {H0 : Hp} {R : Abs} {rt : V → Hp → Prop} {Hr Hr' : Hp} (k : KR H0 R rt Hr) (s : Same Hr Hr') : KR H0 R rt Hr' := fun v H' s1 s2 r => k v H' s1 (s.trans s2) r
theorem KX.up {H0 : Hp} {C : WZ} {Hr Hr' : Hp} (k : KX H0 C Hr) (s : Same Hr Hr') : KX H0 C Hr' := fun ρ' σ' H' Hr'' cls d z E s2 => k ρ' σ' H' Hr'' cls d z E (s.trans s2)
theorem KX.no {H0 : Hp} {C : WZ} {Hr : Hp} (h : ∀ ρ' cls d H', ¬ C.Z ρ' cls d H') : KX H0 C Hr := fun ρ' σ' H' Hr' cls d z _ _ => (h _ _ _ _ z).elim
/-- a block: N, what holds of the slots behind it; R, what is handed back (new) -/
def DS (C : WZ) (H0 : Hp) (ρ : List Slot) (t : TS) (N : List Slot → Prop) (R : Abs) : Prop :=
  ∀ (σ : St) (H Hr : Hp) (D : Ends), EnvOk H0 σ ρ H Hr → (∀ ρ' σ' H' Hr', N ρ' → EnvOk H0 σ' ρ' H' Hr' → Same Hr Hr' → D.nx σ' H') →
    KR H0 R D.rt Hr → KX H0 C Hr → t D σ H
section
variable {H0 : Hp} {ρ : List Slot} {K : PySem.W.Frag}
/-- data without an address -/
def scD : PyData → Bool
  | .none => true | .bool _ => true | .int _ => true | .str _ => true | _ => false
theorem dp_sc {H H' : Hp} {d : PyData} {v : V} (hs : scD d = true) (h : Dp K H v d) : Dp K H' v d := by
  cases h with
  | non => exact .non
  | bl b => exact .bl b
  | int i => exact .int i
  | str x => exact .str x
  | lst _ _ => cases hs
  | tup _ _ => cases hs
theorem dpa_sc {H H' : Hp} : ∀ {ds : List PyData} {vs : List V}, ds.all scD = true → DpAll K H vs ds → DpAll K H' vs ds
  | [], _, _, h => by cases h; exact .nil
  | d :: ds, _, hs, h => by
    cases h with
    | cons h1 h2 =>
      simp only [List.all_cons, Bool.and_eq_true] at hs
      exact .cons (dp_sc hs.1 h1) (dpa_sc hs.2 h2)
theorem de_up {t : TE} {d : PyData} {f g : Bool} (h : DE H0 ρ t f (aD K d)) (hs : scD d = true := by rfl) : DE H0 ρ t g (aD K d) := fun σ H Hr Q E k => h σ H Hr Q E fun v H' Hr' x a => k v H' Hr' x (dp_sc hs a)
theorem de_eq {t : TE} {d e : PyData} {f : Bool} (h : DE H0 ρ t f (aD K d)) (he : d = e) : DE H0 ρ t f (aD K e) := he ▸ h
theorem de_var {i : Nat} {A : Abs} (h : ρ[i]? = some (.dat A)) : DE H0 ρ (tVar i) false A := fun σ H Hr Q E k => by
  obtain ⟨v, e, a⟩ := E.slot i _ h
  exact ⟨v, e, k v H Hr (Ext.refl E.sub) a⟩
theorem de_varn {i : Nat} {A : Abs} (h : ρ[i]? = some (.new A)) : DE H0 ρ (tVar i) true A := fun σ H Hr Q E k => by
  obtain ⟨v, e, a⟩ := E.slot i _ h
  exact ⟨v, e, k v H Hr (Ext.refl E.sub) a⟩
theorem de_vs {i : Nat} {A : Abs} {f : Bool} (h : ρ[i]? = some (sl f A)) : DE H0 ρ (tVar i) f A := by
  cases f
  · exact de_var h
  · exact de_varn h
theorem de_c {v : V} {d : PyData} {f : Bool} (h : ∀ H, Dp K H v d) : DE H0 ρ (tC v) f (aD K d) := fun σ H Hr Q E k => k v H Hr (Ext.refl E.sub) (h _)
theorem de_int {i : Int} {f : Bool} : DE H0 ρ (tC (.int i)) f (aD K (.int i)) := de_c fun _ => .int i
theorem de_str {i : Str} {f : Bool} : DE H0 ρ (tC (.str i)) f (aD K (.str i)) := de_c fun _ => .str i
theorem de_bl {i : Bool} {f : Bool} : DE H0 ρ (tC (.bl i)) f (aD K (.bool i)) := de_c fun _ => .bl i
/-- two operands, a scalar out -/
theorem de_op {r : R2} {ta tb : TE} {A B : Abs} {d : PyData} {f fa fb : Bool} (ha : DE H0 ρ ta fa A) (hb : DE H0 ρ tb fb B)
    (h : ∀ (x y : V) (Hr H : Hp) (Q : VK), Same Hr H → A.p x Hr → B.p y Hr → (∀ v, (∀ G, Dp K G v d) → Q v H) → r x y H Q) : DE H0 ρ (tOp r ta tb) f (aD K d) := fun σ H Hr Q E k => by
  refine ha σ H Hr _ E fun x H1 Hr1 x1 a1 => hb σ H1 Hr1 _ (E.ext x1) fun y H2 Hr2 x2 a2 => ?_
  exact h x y Hr2 H2 Q x2.s (A.mono _ _ _ ((hp_sub fa).trans x2.r) a1) (B.mono _ _ _ (hp_sub fb) a2) fun v hv => k v H2 Hr2 (x1.trans x2) (hv _)
theorem de_i0 {g : Int → Int → V} {ta tb : TE} {i j : Int} {d : PyData} {f fa fb : Bool} (ha : DE H0 ρ ta fa (aD K (.int i))) (hb : DE H0 ρ tb fb (aD K (.int j))) (hg : ∀ G, Dp K G (g i j) d) : DE H0 ρ (tOp (rI0 g) ta tb) f (aD K d) :=
  de_op ha hb fun x y Hr H Q _ a b k => by
    cases a; cases b
    exact ⟨i, j, rfl, rfl, k _ hg⟩
theorem de_iC {C : Int → Int → Prop} {g : Int → Int → V} {ta tb : TE} {i j : Int} {d : PyData} {f fa fb : Bool} (ha : DE H0 ρ ta fa (aD K (.int i))) (hb : DE H0 ρ tb fb (aD K (.int j))) (hc : C i j) (hg : ∀ G, Dp K G (g i j) d) : DE H0 ρ (tOp (rI C g) ta tb) f (aD K d) :=
  de_op ha hb fun x y Hr H Q _ a b k => by
    cases a; cases b
    exact ⟨i, j, rfl, rfl, hc, k _ hg⟩
section
variable {ta tb tc : TE} {i j k : Int} {f fa fb fc : Bool}
theorem de_add (ha : DE H0 ρ ta fa (aD K (.int i))) (hb : DE H0 ρ tb fb (aD K (.int j))) : DE H0 ρ (tOp (rI0 fun i j => .int (i + j)) ta tb) f (aD K (.int (i + j))) := de_i0 ha hb fun _ => .int _
theorem de_sub (ha : DE H0 ρ ta fa (aD K (.int i))) (hb : DE H0 ρ tb fb (aD K (.int j))) : DE H0 ρ (tOp (rI0 fun i j => .int (i - j)) ta tb) f (aD K (.int (i - j))) := de_i0 ha hb fun _ => .int _
theorem de_mul (ha : DE H0 ρ ta fa (aD K (.int i))) (hb : DE H0 ρ tb fb (aD K (.int j))) (h : CMul i j) : DE H0 ρ (tOp (rI CMul fun i j => .int (i * j)) ta tb) f (aD K (.int (i * j))) := de_iC ha hb h fun _ => .int _
theorem de_fdiv (ha : DE H0 ρ ta fa (aD K (.int i))) (hb : DE H0 ρ tb fb (aD K (.int j))) (h : CDiv i j) : DE H0 ρ (tOp (rI CDiv fun i j => .int (i / j)) ta tb) f (aD K (.int (i / j))) := de_iC ha hb h fun _ => .int _
theorem de_mod (ha : DE H0 ρ ta fa (aD K (.int i))) (hb : DE H0 ρ tb fb (aD K (.int j))) (h : 0 < j) : DE H0 ρ (tOp (rI (fun _ j => 0 < j) fun i j => .int (i % j)) ta tb) f (aD K (.int (i % j))) := de_iC ha hb h fun _ => .int _
theorem de_pow (ha : DE H0 ρ ta fa (aD K (.int i))) (hb : DE H0 ρ tb fb (aD K (.int j))) (h : CPow i j) : DE H0 ρ (tOp (rI CPow fun i j => .int (i ^ j.toNat)) ta tb) f (aD K (.int (i ^ j.toNat))) := de_iC ha hb h fun _ => .int _
/-- comparisons of ints that give a bool -/
theorem de_cmp {g : Int → Int → Bool} (ha : DE H0 ρ ta fa (aD K (.int i))) (hb : DE H0 ρ tb fb (aD K (.int j))) : DE H0 ρ (tOp (rI0 fun i j => .bl (g i j)) ta tb) f (aD K (.bool (g i j))) := de_i0 ha hb fun _ => .bl _
theorem de_eqI (ha : DE H0 ρ ta fa (aD K (.int i))) (hb : DE H0 ρ tb fb (aD K (.int j))) : DE H0 ρ (tOp rEq ta tb) f (aD K (.bool (decide (i = j)))) := de_op ha hb fun x y Hr H Q _ a b k => by
  cases a; cases b
  exact ⟨rfl, k _ fun _ => by rw [show decide (V.int i = V.int j) = decide (i = j) by simp]; exact .bl _⟩
theorem de_eqS {x y : Str} (ha : DE H0 ρ ta fa (aD K (.str x))) (hb : DE H0 ρ tb fb (aD K (.str y))) : DE H0 ρ (tOp rEq ta tb) f (aD K (.bool (decide (x = y)))) := de_op ha hb fun x y Hr H Q _ a b k => by
  cases a; cases b
  exact ⟨rfl, k _ fun _ => by rw [show ∀ x y : Str, decide (V.str x = V.str y) = decide (x = y) by intro x y; simp]; exact .bl _⟩
end
end
end Kj

set_option Elab.async false
set_option linter.all false
set_option maxRecDepth 100000
set_option maxHeartbeats 4000000
namespace Kj
open PySem L2
section
variable {H0 : Hp} {ρ : List Slot} {K : PySem.W.Frag} {f fa fb fc : Bool} {ta tb tc te : TE} {a b c : Bool}
/-! ### tests -/
theorem dt_test (h : DE H0 ρ te fa (aD K (.bool b))) : DT K H0 ρ (tTest te) b := fun σ H Hr Q E k => h σ H Hr _ E fun v H' Hr' x a => by cases a; exact ⟨b, rfl, k H' Hr' x⟩
theorem dt_B (h : DE H0 ρ te fa (aD K (.bool b))) : DT K H0 ρ (tB te) b := fun σ H Hr Q E k => h σ H Hr _ E fun v H' Hr' x a => by cases a; exact ⟨b, rfl, k H' Hr' x⟩
theorem dt_and {t u : TT} (h : DT K H0 ρ t a) (h2 : a = true → DT K H0 ρ u b) : DT K H0 ρ (tAnd t u) (a && b) := fun σ H Hr Q E k => h σ H Hr _ E fun H' Hr' x => by
  cases a with
  | true => rw [if_pos rfl]; exact h2 rfl σ H' Hr' Q (E.ext x) fun H2 Hr2 x2 => k H2 Hr2 (x.trans x2)
  | false => rw [if_neg Bool.false_ne_true]; exact k H' Hr' x
theorem dt_or {t u : TT} (h : DT K H0 ρ t a) (h2 : a = false → DT K H0 ρ u b) : DT K H0 ρ (tOr t u) (a || b) := fun σ H Hr Q E k => h σ H Hr _ E fun H' Hr' x => by
  cases a with
  | true => rw [if_pos rfl]; exact k H' Hr' x
  | false => rw [if_neg Bool.false_ne_true]; exact h2 rfl σ H' Hr' Q (E.ext x) fun H2 Hr2 x2 => k H2 Hr2 (x.trans x2)
theorem dt_not {t : TT} (h : DT K H0 ρ t a) : DT K H0 ρ (tNot t) (!a) := fun σ H Hr Q E k => h σ H Hr _ E fun H' Hr' x => k H' Hr' x
theorem dt_eq {t : TT} (h : DT K H0 ρ t a) (e : a = b) : DT K H0 ρ t b := e ▸ h
theorem de_and (h : DE H0 ρ ta fa (aD K (.bool a))) (h2 : a = true → DE H0 ρ tb fb (aD K (.bool b))) : DE H0 ρ (tAndV ta tb) f (aD K (.bool (a && b))) := fun σ H Hr Q E k => h σ H Hr _ E fun v H' Hr' x q => by
  cases q
  refine ⟨a, rfl, ?_⟩
  cases a with
  | true => rw [if_pos rfl]; exact h2 rfl σ H' Hr' Q (E.ext x) fun v H2 Hr2 x2 q => k v H2 Hr2 (x.trans x2) (dp_sc rfl q)
  | false => rw [if_neg Bool.false_ne_true]; exact k _ H' Hr' x (.bl _)
theorem de_not (h : DE H0 ρ ta fa (aD K (.bool a))) : DE H0 ρ (tNotV ta) f (aD K (.bool (!a))) := fun σ H Hr Q E k => h σ H Hr _ E fun v H' Hr' x q => by
  cases q
  exact ⟨a, rfl, k _ H' Hr' x (.bl _)⟩
/-- a chain of two comparisons of ints -/
theorem de_chI {g g' : Int → Int → Bool} {i j m : Int} (ha : DE H0 ρ ta fa (aD K (.int i))) (hb : DE H0 ρ tb fb (aD K (.int j))) (hc : DE H0 ρ tc fc (aD K (.int m))) :
    DE H0 ρ (tChain (rI0 fun i j => .bl (g i j)) (rI0 fun i j => .bl (g' i j)) ta tb tc) f (aD K (.bool (g i j && g' j m))) := fun σ H Hr Q E k => by
  refine ha σ H Hr _ E fun x H1 Hr1 x1 q1 => hb σ H1 Hr1 _ (E.ext x1) fun y H2 Hr2 x2 q2 => ?_
  cases q1; cases q2
  refine ⟨i, j, rfl, rfl, g i j, rfl, ?_⟩
  cases hg : g i j with
  | true =>
    rw [if_pos rfl]
    refine hc σ H2 Hr2 _ ((E.ext x1).ext x2) fun z H3 Hr3 x3 q3 => ?_
    cases q3
    exact ⟨j, m, rfl, rfl, k _ H3 Hr3 ((x1.trans x2).trans x3) (by rw [hg, Bool.true_and]; exact .bl _)⟩
  | false => rw [if_neg Bool.false_ne_true]; exact k _ H2 Hr2 (x1.trans x2) (by rw [hg, Bool.false_and]; exact .bl _)
/-! ### arguments, displays -/
theorem da_nil : DA H0 ρ tNil f [] := fun σ H Hr Q E k => k [] H Hr (Ext.refl E.sub) .nil
theorem da_cons {t : TA} {A : Abs} {As : List Abs} (h : DE H0 ρ te fa A) (hr : DA H0 ρ t false As) : DA H0 ρ (tCons te t) false (A :: As) := fun σ H Hr Q E k =>
  h σ H Hr _ E fun v H1 Hr1 x1 a1 => hr σ H1 Hr1 _ (E.ext x1) fun vs H2 Hr2 x2 a2 => k _ H2 Hr2 (x1.trans x2) (.cons (A.mono _ _ _ ((hp_sub fa).trans x2.r) a1) a2)
def DAd (H0 : Hp) (K : PySem.W.Frag) (ρ : List Slot) (t : TA) (f : Bool) (ds : List PyData) : Prop :=
  ∀ (σ : St) (H Hr : Hp) (Q : List V → Hp → Prop), EnvOk H0 σ ρ H Hr → (∀ vs H' Hr', Ext H Hr H' Hr' → DpAll K (hp f Hr' H0) vs ds → Q vs H') → t σ H Q
theorem dad_nil : DAd H0 K ρ tNil f [] := fun σ H Hr Q E k => k [] H Hr (Ext.refl E.sub) .nil
theorem dad_cons {t : TA} {d : PyData} {ds : List PyData} (h : DE H0 ρ te f (aD K d)) (hr : DAd H0 K ρ t f ds) : DAd H0 K ρ (tCons te t) f (d :: ds) := fun σ H Hr Q E k =>
  h σ H Hr _ E fun v H1 Hr1 x1 a1 => hr σ H1 Hr1 _ (E.ext x1) fun vs H2 Hr2 x2 a2 => k _ H2 Hr2 (x1.trans x2) (.cons (dp_mono (hp_mono f H0 x2.r) _ _ a1) a2)
theorem dpa_len {H : Hp} : ∀ {vs : List V} {ds : List PyData}, DpAll K H vs ds → vs.length = ds.length
  | _, _, .nil => rfl
  | _, _, .cons _ t => by simp [dpa_len t]
theorem dpa_get {H : Hp} : ∀ {vs : List V} {ds : List PyData} {i : Nat} {v : V}, DpAll K H vs ds → vs[i]? = some v → ∃ d, ds[i]? = some d ∧ Dp K H v d
  | _, _, _, _, .nil, e => by simp at e
  | _, _, 0, _, .cons h _, e => by simp at e; subst e; exact ⟨_, rfl, h⟩
  | _, _, i + 1, _, .cons _ t, e => by
    obtain ⟨d, h1, h2⟩ := dpa_get (i := i) t (by simpa using e)
    exact ⟨d, by simpa using h1, h2⟩
theorem dpa_app {H : Hp} : ∀ {vs ws : List V} {ds es : List PyData}, DpAll K H vs ds → DpAll K H ws es → DpAll K H (vs ++ ws) (ds ++ es)
  | _, _, _, _, .nil, h => h
  | _, _, _, _, .cons h t, h' => .cons h (dpa_app t h')
theorem dpa_drop {H : Hp} : ∀ {vs : List V} {ds : List PyData} (n : Nat), DpAll K H vs ds → DpAll K H (vs.drop n) (ds.drop n)
  | _, _, 0, h => h
  | _, _, _ + 1, .nil => .nil
  | _, _, n + 1, .cons _ t => dpa_drop n t
theorem dpa_take {H : Hp} : ∀ {vs : List V} {ds : List PyData} (n : Nat), DpAll K H vs ds → DpAll K H (vs.take n) (ds.take n)
  | _, _, 0, _ => .nil
  | _, _, _ + 1, .nil => .nil
  | _, _, n + 1, .cons h t => .cons h (dpa_take n t)
theorem de_tup {t : TA} {ds : List PyData} (h : DAd H0 K ρ t f ds) (hl : ds.length ≤ 1000 := by first | decide | simp) : DE H0 ρ (tTup t) f (aD K (.tuple ds)) := fun σ H Hr Q E k => h σ H Hr _ E fun vs H1 Hr1 x1 a1 => by
  refine ⟨by rw [dpa_len a1]; exact Nat.le_trans hl (by decide), fun p hn => ?_⟩
  have E1 := E.ext x1
  refine k _ _ _ (x1.trans (Ext.lay x1.s hn)) (.tup (SqT.of (hp_lay f E1.base hn)) (dpa_mono (hp_mono f H0 (Ext.lay x1.s hn).r) _ _ a1))
theorem de_lst {t : TA} {ds : List PyData} (h : DAd H0 K ρ t f ds) (hl : ds.length ≤ 1000 := by first | decide | simp) : DE H0 ρ (tLst t) f (aD K (.list ds)) := fun σ H Hr Q E k => h σ H Hr _ E fun vs H1 Hr1 x1 a1 => by
  refine ⟨by rw [dpa_len a1]; exact Nat.le_trans hl (by decide), fun p hn => ?_⟩
  have E1 := E.ext x1
  refine k _ _ _ (x1.trans (Ext.lay x1.s hn)) (.lst (SqL.of (hp_lay f E1.base hn)) (dpa_mono (hp_mono f H0 (Ext.lay x1.s hn).r) _ _ a1))
/-! ### items, slices, lengths -/
theorem atI_dp {H : Hp} {xs : List V} {ds : List PyData} {i : Int} {d : PyData} (h : DpAll K H xs ds) (e : atI ds i = some d) : ∃ v, atI xs i = some v ∧ Dp K H v d := by
  unfold atI at e ⊢
  rw [dpa_len h]
  cases q : ixN ds.length i with
  | none => rw [q] at e; cases e
  | some j =>
    rw [q] at e
    have e' : ds[j]? = some d := e
    have hj : j < xs.length := by rw [dpa_len h]; exact (List.getElem?_eq_some_iff.mp e').1
    obtain ⟨d', h1, h2⟩ := dpa_get h (List.getElem?_eq_getElem hj)
    rw [h1] at e'
    cases e'
    exact ⟨xs[j], by show xs[j]? = _; rw [List.getElem?_eq_getElem hj], h2⟩
theorem de_ixL {ds : List PyData} {i : Int} {d : PyData} (ha : DE H0 ρ ta f (aD K (.list ds))) (hb : DE H0 ρ tb fb (aD K (.int i))) (hd : atI ds i = some d) : DE H0 ρ (tOp (rIxL K) ta tb) f (aD K d) := fun σ H Hr Q E k => by
  refine ha σ H Hr _ E fun x H1 Hr1 x1 a1 => hb σ H1 Hr1 _ (E.ext x1) fun y H2 Hr2 x2 a2 => ?_
  cases a2
  cases a1 with
  | lst hs hA =>
    obtain ⟨v, hv, hd'⟩ := atI_dp (dpa_mono (hp_mono f H0 x2.r) _ _ hA) hd
    exact ⟨_, _, i, v, rfl, rfl, ((hp_sub f).trans (x2.r.trans x2.s)).seq hs, hv, k v H2 Hr2 (x1.trans x2) hd'⟩
theorem de_ixS {z : Str} {i : Int} {c : Nat} (ha : DE H0 ρ ta fa (aD K (.str z))) (hb : DE H0 ρ tb fb (aD K (.int i))) (hz : z.length ≤ sizeLine) (hd : atI z.cps.toList i = some c) : DE H0 ρ (tOp rIxS ta tb) f (aD K (.str ⟨#[c]⟩)) :=
  de_op ha hb fun x y Hr H Q _ a b k => by
    cases a; cases b
    exact ⟨z, i, c, rfl, rfl, hz, hd, k _ fun _ => .str _⟩
def DO (K : PySem.W.Frag) (H0 : Hp) (ρ : List Slot) (t : TO) (o : Option Int) : Prop :=
  ∀ (σ : St) (H Hr : Hp) (Q : Option Int → Hp → Prop), EnvOk H0 σ ρ H Hr → (∀ H' Hr', Ext H Hr H' Hr' → Q o H') → t σ H Q
theorem do_no : DO K H0 ρ tNoPart none := fun σ H Hr Q E k => k H Hr (Ext.refl E.sub)
theorem do_so {i : Int} (h : DE H0 ρ te fa (aD K (.int i))) : DO K H0 ρ (tPart te) (some i) := fun σ H Hr Q E k => h σ H Hr _ E fun v H1 Hr1 x a => by cases a; exact ⟨i, rfl, k H1 Hr1 x⟩
def cutD {α : Type} (xs : List α) (lo hi : Option Int) : List α := (xs.drop (HT.sIx xs.length 0 lo)).take (HT.sIx xs.length xs.length hi - HT.sIx xs.length 0 lo)
theorem de_sl {ds : List PyData} {tl th : TO} {lo hi : Option Int} (h : DE H0 ρ te f (aD K (.list ds))) (hl : DO K H0 ρ tl lo) (hh : DO K H0 ρ th hi) : DE H0 ρ (tSl (rSlL K) te tl th) f (aD K (.list (cutD ds lo hi))) := fun σ H Hr Q E k => by
  refine h σ H Hr _ E fun v H1 Hr1 x1 a1 => hl σ H1 Hr1 _ (E.ext x1) fun H2 Hr2 x2 => hh σ H2 Hr2 _ ((E.ext x1).ext x2) fun H3 Hr3 x3 => ?_
  cases a1 with
  | @lst a xs _ hs hA =>
    have x23 := x2.trans x3
    have E3 := ((E.ext x1).ext x2).ext x3
    refine ⟨_, _, rfl, ((hp_sub f).trans (x23.r.trans x23.s)).seq hs, fun p hn => ?_⟩
    refine k _ _ _ ((x1.trans x23).trans (Ext.lay x3.s hn)) (.lst (SqL.of (hp_lay f E3.base hn)) ?_)
    have hA' := dpa_mono (hp_mono f H0 (x23.r.trans (Ext.lay (o := .lst (cutV xs lo hi)) x3.s hn).r)) _ _ hA
    show DpAll K _ (cutV xs lo hi) _
    have e : cutD ds lo hi = (ds.drop (HT.sIx xs.length 0 lo)).take (HT.sIx xs.length xs.length hi - HT.sIx xs.length 0 lo) := by unfold cutD; rw [dpa_len hA]
    rw [e]
    exact dpa_take _ (dpa_drop _ hA')
theorem de_slf {ds : List PyData} {tl th : TO} {lo hi : Option Int} (h : DE H0 ρ te fa (aD K (.list ds))) (hl : DO K H0 ρ tl lo) (hh : DO K H0 ρ th hi) (hf : ds.all scD = true) : DE H0 ρ (tSl (rSlL K) te tl th) f (aD K (.list (cutD ds lo hi))) := fun σ H Hr Q E k => by
  refine h σ H Hr _ E fun v H1 Hr1 x1 a1 => hl σ H1 Hr1 _ (E.ext x1) fun H2 Hr2 x2 => hh σ H2 Hr2 _ ((E.ext x1).ext x2) fun H3 Hr3 x3 => ?_
  cases a1 with
  | @lst a xs _ hs hA =>
    have x23 := x2.trans x3
    have E3 := ((E.ext x1).ext x2).ext x3
    refine ⟨_, _, rfl, ((hp_sub fa).trans (x23.r.trans x23.s)).seq hs, fun p hn => ?_⟩
    refine k _ _ _ ((x1.trans x23).trans (Ext.lay x3.s hn)) (.lst (SqL.of (hp_lay f E3.base hn)) ?_)
    have hA' := dpa_sc (H' := hp f (upd Hr3 p (.lst (cutV xs lo hi))) H0) hf hA
    show DpAll K _ (cutV xs lo hi) _
    have e : cutD ds lo hi = (ds.drop (HT.sIx xs.length 0 lo)).take (HT.sIx xs.length xs.length hi - HT.sIx xs.length 0 lo) := by unfold cutD; rw [dpa_len hA]
    rw [e]
    exact dpa_take _ (dpa_drop _ hA')
theorem de_len {d : PyData} {n : Nat} (h : DE H0 ρ te fa (aD K d)) (hn : (match d with | .list ds => n = ds.length | .tuple ds => n = ds.length | .str z => z.length ≤ sizeLine ∧ n = z.length | _ => False)) :
    DE H0 ρ (tCB (fun xs H Q => ∃ x n, xs = [x] ∧ LenV K x H n ∧ Q (.int n) H) (tCons te tNil)) f (aD K (.int n)) := fun σ H Hr Q E k => h σ H Hr _ E fun v H1 Hr1 x1 a1 => by
  refine ⟨v, n, rfl, ?_, k _ H1 Hr1 x1 (.int _)⟩
  cases a1 with
  | non => exact hn.elim
  | bl _ => exact hn.elim
  | int _ => exact hn.elim
  | str x => exact hn
  | lst hs hA => exact .inl ⟨_, ((hp_sub fa).trans x1.s).seq hs, by rw [dpa_len hA]; exact hn⟩
  | tup hs hA => exact .inr ⟨_, seqT ((hp_sub fa).trans x1.s) hs, by rw [dpa_len hA]; exact hn⟩
theorem de_lenL {ds : List PyData} (h : DE H0 ρ te fa (aD K (.list ds))) : DE H0 ρ (tCB (fun xs H Q => ∃ x n, xs = [x] ∧ LenV K x H n ∧ Q (.int n) H) (tCons te tNil)) f (aD K (.int ds.length)) := de_len h rfl
theorem de_min {i j : Int} (h : DE H0 ρ ta fa (aD K (.int i))) (h2 : DE H0 ρ tb fb (aD K (.int j))) : DE H0 ρ (tCB (fun xs H Q => ∃ i j, xs = [.int i, .int j] ∧ Q (.int (if j < i then j else i)) H) (tCons ta (tCons tb tNil))) f (aD K (.int (if j < i then j else i))) := fun σ H Hr Q E k =>
  h σ H Hr _ E fun v H1 Hr1 x1 a1 => h2 σ H1 Hr1 _ (E.ext x1) fun v2 H2 Hr2 x2 a2 => by
  cases a1; cases a2
  exact ⟨i, j, rfl, k _ H2 Hr2 (x1.trans x2) (.int _)⟩
theorem de_max {i j : Int} (h : DE H0 ρ ta fa (aD K (.int i))) (h2 : DE H0 ρ tb fb (aD K (.int j))) : DE H0 ρ (tCB (fun xs H Q => ∃ i j, xs = [.int i, .int j] ∧ Q (.int (if j > i then j else i)) H) (tCons ta (tCons tb tNil))) f (aD K (.int (if j > i then j else i))) := fun σ H Hr Q E k =>
  h σ H Hr _ E fun v H1 Hr1 x1 a1 => h2 σ H1 Hr1 _ (E.ext x1) fun v2 H2 Hr2 x2 a2 => by
  cases a1; cases a2
  exact ⟨i, j, rfl, k _ H2 Hr2 (x1.trans x2) (.int _)⟩
/-- text * n -/
def rMulS : R2 := fun x y H Q => ∃ z n, x = .str z ∧ y = .int n ∧ MulOk z n ∧ Q (.str (Txt.mul z n)) H
/-! ### lending what is one's own -/
def Bo (H0 : Hp) (ρ ρ' : List Slot) : Prop := ∀ (σ : St) (H Hr : Hp), EnvOk H0 σ ρ H Hr → ∃ Hr', Same Hr Hr' ∧ EnvOk H0 σ ρ' H Hr'
theorem bo_refl : Bo H0 ρ ρ := fun σ H Hr E => ⟨Hr, Same.refl _, E⟩
def oL (K : PySem.W.Frag) (ds : List PyData) : AbsO := ⟨fun _ o H => ∃ xs, o = .lst xs ∧ DpAll K H xs ds, fun _ _ _ _ s ⟨xs, e, h⟩ => ⟨xs, e, dpa_mono s _ _ h⟩⟩
theorem bo_own {i : Nat} {ds : List PyData} (hi : ρ[i]? = some (.own (oL K ds))) : Bo H0 ρ (ρ.set i (.new (aD K (.list ds)))) := fun σ H Hr E => by
  have hl : i < ρ.length := (List.getElem?_eq_some_iff.mp hi).1
  obtain ⟨p, o, e1, e2, e3, e4, xs, e5, e6⟩ := E.slot i _ hi
  subst e5
  have up : Same Hr (upd Hr p (.lst xs)) := fun a u e => by rw [upd_ne (ne_of_none e e3)]; exact e
  refine ⟨upd Hr p (.lst xs), up, E.base, fun a u e => ?_, by simp [E.len], fun j s hs => ?_, fun j k q B B' hjk hj hk ej ek => ?_, E.reg.set1 (fun j n => rfl) (fun A z => by cases z) (fun B z => by cases z) fun a o h1 h2 h3 h4 => ⟨h1, by rw [upd_ne fun z => h4 i _ hi (by rw [z]; exact e1)]; exact h2, h3⟩⟩
  · by_cases z : a = p
    · subst z; rw [upd_same] at e; cases e; exact e4
    · rw [upd_ne z] at e; exact E.sub _ _ e
  · by_cases hj : j = i
    · subst hj
      rw [List.getElem?_set_self hl] at hs
      have e := Option.some.inj hs
      subst e
      refine ⟨_, e1, .lst (SqL.of (mns_some.mpr ⟨e2, upd_same⟩)) (dpa_mono (mns_mono H0 up) _ _ e6)⟩
    · rw [List.getElem?_set_ne (Ne.symm hj)] at hs
      have := E.slot j s hs
      cases s with
      | no => trivial
      | reg A => trivial
      | dat A => obtain ⟨v, g1, g2⟩ := this; exact ⟨v, g1, A.mono _ _ _ up g2⟩
      | new A => obtain ⟨v, g1, g2⟩ := this; exact ⟨v, g1, A.mono _ _ _ (mns_mono H0 up) g2⟩
      | own B =>
        obtain ⟨q, u, g1, g2, g3, g4, g5⟩ := this
        have : q ≠ p := fun z => by subst z; exact E.dis j i q B _ hj hs hi g1 e1
        exact ⟨q, u, g1, g2, by rw [upd_ne this]; exact g3, g4, B.mono _ _ _ _ (mns_mono H0 up) g5⟩
  · have back : ∀ (m : Nat) (B2 : AbsO), (ρ.set i (.new (aD K (.list ds))))[m]? = some (Slot.own B2) → ρ[m]? = some (Slot.own B2) := fun m B2 hm => by
      by_cases z : m = i
      · subst z; rw [List.getElem?_set_self hl] at hm; cases hm
      · rw [List.getElem?_set_ne (Ne.symm z)] at hm; exact hm
    exact E.dis j k q _ _ hjk (back _ _ hj) (back _ _ hk) ej ek
theorem de_bor {ρ' : List Slot} {d : PyData} {g : Bool} (bo : Bo H0 ρ ρ') (h : DE H0 ρ' te f (aD K d)) (hs : scD d = true := by rfl) : DE H0 ρ te g (aD K d) := fun σ H Hr Q E k => by
  obtain ⟨Hr', s, E'⟩ := bo σ H Hr E
  refine h σ H Hr' _ E' fun v H1 Hr1 x1 a1 => k v H1 _ (Ext.call E.sub (Same.refl _) x1.h) (dp_sc hs a1)
theorem dt_bor {ρ' : List Slot} {t : TT} (bo : Bo H0 ρ ρ') (h : DT K H0 ρ' t b) : DT K H0 ρ t b := fun σ H Hr Q E k => by
  obtain ⟨Hr', s, E'⟩ := bo σ H Hr E
  exact h σ H Hr' _ E' fun H1 Hr1 x1 => k H1 _ (Ext.call E.sub (Same.refl _) x1.h)
/-! ### calls of one's own defs -/
abbrev Spec := List Abs → Abs → Prop
def spF (S : Spec) : Sp := fun vs H Q _ => ∃ As R, S As R ∧ AllP As vs H ∧ ∀ v H', Same H H' → R.p v (mns H' H) → Q v H'
theorem de_call {S : Spec} {As : List Abs} {R : Abs} {t : TA} {Ex : XK} {ρ' : List Slot} (bo : Bo H0 ρ ρ') (ha : DA H0 ρ' t false As) (hs : S As R) : DE H0 ρ (tCall (spF S) [] Ex t) f R := fun σ H Hr Q E k => by
  obtain ⟨Hr', s, E'⟩ := bo σ H Hr E
  refine ha σ H Hr' _ E' fun vs H1 Hr1 x1 a1 => ?_
  show spF S (vs ++ []) H1 Q Ex
  rw [List.append_nil]
  refine ⟨As, R, hs, a1.mono x1.s, fun v H2 s2 r2 => k v H2 _ (Ext.call E.sub x1.h s2) ?_⟩
  have r3 := R.mono _ _ _ (joinH_new E.base E.sub x1.h) r2
  cases f
  · exact R.mono _ _ _ mns_sub r3
  · exact r3
/-! ### statements -/
variable {C : WZ} {N N1 : List Slot → Prop} {R : Abs} {t u w : TS}
theorem lt_of {i n : Nat} (h : Nat.blt i n = true) : i < n := Nat.le_of_ble_eq_true h
theorem ds_seq (h : DS C H0 ρ t N1 R) (h2 : ∀ ρ', N1 ρ' → DS C H0 ρ' u N R) : DS C H0 ρ (tSeq t u) N R := fun σ H Hr D E kn kr kx =>
  h σ H Hr _ E (fun ρ' σ' H' Hr' n E' s => h2 ρ' n σ' H' Hr' D E' (fun ρ2 σ2 H2 Hr2 n2 E2 s2 => kn ρ2 σ2 H2 Hr2 n2 E2 (s.trans s2)) (kr.up s) (kx.up s)) kr kx
theorem ds_sq {ρ1 : List Slot} (h : DS C H0 ρ t (fun r => r = ρ1) R) (h2 : DS C H0 ρ1 u N R) : DS C H0 ρ (tSeq t u) N R := ds_seq h fun _ e => e ▸ h2
theorem ds_imp (h : DS C H0 ρ t N1 R) (h2 : ∀ ρ', N1 ρ' → N ρ') : DS C H0 ρ t N R := fun σ H Hr D E kn kr kx => h σ H Hr D E (fun ρ' σ' H' Hr' n E' s => kn ρ' σ' H' Hr' (h2 _ n) E' s) kr kx
theorem ds_next (h : N ρ) : DS C H0 ρ tNext N R := fun σ H Hr D E kn kr kx => kn ρ σ H Hr h E (Same.refl _)
theorem ds_skip (h : DS C H0 ρ u N R) : DS C H0 ρ (tSeq tNext u) N R := h
theorem ds_set {i : Nat} {A : Abs} (h : DE H0 ρ te f A) (hi : Nat.blt i ρ.length = true := by rfl) : DS C H0 ρ (tAsg te (gName i)) (fun r => r = ρ.set i (sl f A)) R := fun σ H Hr D E kn kr kx =>
  h σ H Hr _ E fun v H1 Hr1 x1 a1 => kn _ _ _ Hr1 rfl ((E.ext x1).set (lt_of hi) a1) x1.r
theorem ds_own {i : Nat} (hi : Nat.blt i ρ.length = true := by rfl) : DS C H0 ρ (tAsg (tLst tNil) (gName i)) (fun r => r = ρ.set i (.own (oL K []))) R := fun σ H Hr D E kn kr kx =>
  ⟨by decide, fun p hn => kn _ _ _ Hr rfl (E.lay (lt_of hi) hn ⟨[], rfl, .nil⟩) (Same.refl _)⟩
theorem ds_app {i : Nat} {ds : List PyData} {d : PyData} (hi : ρ[i]? = some (.own (oL K ds))) (h : DE H0 ρ te true (aD K d)) (hl : ds.length < 100000) : DS C H0 ρ (tDrop (tBM K "list" rAppend (tVar i) (tCons te tNil))) (fun r => r = ρ.set i (.own (oL K (ds ++ [d])))) R := fun σ H Hr D E kn kr kx => by
  obtain ⟨p, o, e1, e2, e3, e4, xs, e5, e6⟩ := E.slot i _ hi
  subst e5
  refine ⟨_, e1, .inl ⟨rfl, _, SqL.of e4⟩, h σ H Hr _ E fun v H1 Hr1 x1 a1 => ?_⟩
  have E1 := E.ext x1
  refine ⟨p, xs, v, rfl, rfl, x1.h _ _ e4, ?_, kn _ _ _ Hr1 rfl (E1.wr hi e1 ⟨_, rfl, dpa_app (dpa_mono (mns_mono H0 x1.r) _ _ e6) (.cons a1 .nil)⟩) x1.r⟩
  rw [dpa_len e6]
  exact Nat.lt_trans hl (by rw [sizeLine_eq]; decide)
theorem ds_drop {A : Abs} (h : DE H0 ρ te f A) : DS C H0 ρ (tDrop te) (fun r => r = ρ) R := fun σ H Hr D E kn kr kx => h σ H Hr _ E fun v H1 Hr1 x1 a1 => kn _ _ _ Hr1 rfl (E.ext x1) x1.r
theorem ds_if {ct : TT} {a : Bool} (h : DT K H0 ρ ct a) (h1 : a = true → DS C H0 ρ t N R) (h2 : a = false → DS C H0 ρ u N R) : DS C H0 ρ (tIfS ct t u) N R := fun σ H Hr D E kn kr kx => h σ H Hr _ E fun H1 Hr1 x1 => by
  cases a with
  | true => rw [if_pos rfl]; exact h1 rfl σ H1 Hr1 D (E.ext x1) (fun ρ' σ' H' Hr' n E' s => kn ρ' σ' H' Hr' n E' (x1.r.trans s)) (kr.up x1.r) (kx.up x1.r)
  | false => rw [if_neg Bool.false_ne_true]; exact h2 rfl σ H1 Hr1 D (E.ext x1) (fun ρ' σ' H' Hr' n E' s => kn ρ' σ' H' Hr' n E' (x1.r.trans s)) (kr.up x1.r) (kx.up x1.r)
theorem ds_ifs {ct : TT} {a : Bool} (h : DT K H0 ρ ct a) (h1 : a = true → DS C H0 ρ (tSeq t w) N R) (h2 : a = false → DS C H0 ρ (tSeq u w) N R) : DS C H0 ρ (tSeq (tIfS ct t u) w) N R :=
  fun σ H Hr D E kn kr kx => ds_if (C := C) (t := tSeq t w) (u := tSeq u w) h h1 h2 σ H Hr D E kn kr kx
theorem ds_ret {A : Abs} (h : DE H0 ρ te true A) (hR : ∀ v G, A.p v G → R.p v G) : DS C H0 ρ (tRet te) N R := fun σ H Hr D E kn kr kx => h σ H Hr _ E fun v H1 Hr1 x1 a1 => kr v H1 (E.base.trans x1.h) (x1.r.trans x1.s) (hR _ _ (A.mono _ _ _ (mns_mono H0 x1.s) a1))
theorem ds_rets {A : Abs} (h : DE H0 ρ te true A) (hR : ∀ v G, A.p v G → R.p v G) : DS C H0 ρ (tSeq (tRet te) u) N R := fun σ H Hr D E kn kr kx => ds_ret (C := C) (N := fun _ => False) h hR σ H Hr { D with nx := u D } E (fun _ _ _ _ n _ _ => n.elim) kr kx
end
end Kj

set_option Elab.async false
set_option linter.all false
set_option maxRecDepth 100000
set_option maxHeartbeats 4000000
namespace Kj
open PySem L2
section
variable {C : WZ} {H0 : Hp} {ρ : List Slot} {K : PySem.W.Frag} {f fa fb fc : Bool} {ta tb tc te : TE} {a b c : Bool} {N N1 : List Slot → Prop} {R : Abs} {t u w : TS}
theorem ds_while {ct : TT} {tb : TS} (I : Nat → List Slot → Prop) (m0 : Nat) (h0 : I m0 ρ)
    (hs : ∀ m r, I m r → ∃ b, DT K H0 r ct b ∧ (b = true → DS C H0 r tb (fun r' => ∃ m', m' < m ∧ I m' r') R) ∧ (b = false → N r)) : DS C H0 ρ (tWhile ct tb) N R := fun σ H Hr D E kn kr kx => by
  refine ⟨fun m σ' H' => ∃ r Hr', I m r ∧ EnvOk H0 σ' r H' Hr' ∧ Same Hr Hr', ⟨m0, ρ, Hr, h0, E, Same.refl _⟩, ?_⟩
  rintro m σ' H' ⟨r, Hr', i', E', s⟩
  obtain ⟨b, dt, h1, h2⟩ := hs m r i'
  refine dt σ' H' Hr' _ E' fun H1 Hr1 x1 => ?_
  cases b with
  | true =>
    rw [if_pos rfl]
    refine ⟨fun σ2 H2 => ∃ m', m' < m ∧ ∃ r Hr', I m' r ∧ EnvOk H0 σ2 r H2 Hr' ∧ Same Hr Hr', fun _ _ q => q, h1 rfl σ' H1 Hr1 _ (E'.ext x1) (fun r2 σ2 H2 Hr2 n2 E2 s2 => ?_) (kr.up (s.trans x1.r)) (kx.up (s.trans x1.r))⟩
    obtain ⟨m', lt, i2⟩ := n2
    exact ⟨m', lt, r2, Hr2, i2, E2, (s.trans x1.r).trans s2⟩
  | false =>
    rw [if_neg Bool.false_ne_true]
    exact kn r σ' H1 Hr1 (h2 rfl) (E'.ext x1) (s.trans x1.r)
/-- what is one's own is lent for good -/
theorem ds_bor {ρ' : List Slot} (bo : Bo H0 ρ ρ') (h : DS C H0 ρ' t N R) : DS C H0 ρ t N R := fun σ H Hr D E kn kr kx => by
  obtain ⟨Hr', s, E'⟩ := bo σ H Hr E
  exact h σ H Hr' D E' (fun r2 σ2 H2 Hr2 n2 E2 s2 => kn r2 σ2 H2 Hr2 n2 E2 (s.trans s2)) (kr.up s) (kx.up s)
/-! ### isinstance -/
def tyN : PyData → String
  | .none => "NoneType" | .bool _ => "bool" | .int _ => "int" | .str _ => "str" | .list _ => "list" | .tuple _ => "tuple" | .dict _ => "dict"
theorem sq_tyL {H : Hp} {p : Addr} {xs : List V} (h : SqL K H p xs) : TyX K H (.ref p) (.type "list") := by
  rcases h with (h | ⟨o, h⟩) | ⟨o, its, n, h1, h2, _⟩
  · exact .base (.lst h)
  · exact .base (.frz h)
  · exact .kList h1 h2
theorem sq_tyT {H : Hp} {p : Addr} {xs : List V} (h : SqT K H p xs) : TyX K H (.ref p) (.type "tuple") := by
  rcases h with (h | ⟨o, h⟩) | ⟨o, its, n, h1, h2, _⟩
  · exact .base (.tup h)
  · exact .fTuple h
  · exact .kTuple h1 h2
theorem dp_ty {H : Hp} {v : V} {d : PyData} (h : Dp K H v d) : TyX K H v (.type (tyN d)) := by
  cases h with
  | non => exact .base .non
  | bl b => exact .base (.bl b)
  | int i => exact .base (.int i)
  | str x => exact .base (.str x)
  | lst hs _ => exact sq_tyL hs
  | tup hs _ => exact sq_tyT hs
theorem ty_mono {H H' : Hp} {v : V} {d : PyData} (s : Same H H') (h : Dp K H v d) : TyX K H' v (.type (tyN d)) := dp_ty (dp_mono s _ _ h)
theorem de_isi {d : PyData} {T : String} (h : DE H0 ρ te fa (aD K d)) (hk : kitB (tyN d) T = some b) : DE H0 ρ (tCB (rIsi K) (tCons te (tCons (tC (.ty T)) tNil))) f (aD K (.bool b)) := fun σ H Hr Q E k => h σ H Hr _ E fun v H1 Hr1 x1 a1 =>
  ⟨v, .ty T, _, .type T, b, rfl, .ty T, ty_mono ((hp_sub fa).trans x1.s) a1, kit_ty hk, k _ H1 Hr1 x1 (.bl _)⟩
theorem de_isi2 {d : PyData} {T U : String} {b1 b2 : Bool} (h : DE H0 ρ te fa (aD K d)) (hk : kitB (tyN d) T = some b1) (hk2 : kitB (tyN d) U = some b2) :
    DE H0 ρ (tCB (rIsiT K) (tCons te (tCons (tTup (tCons (tC (.ty T)) (tCons (tC (.ty U)) tNil))) tNil))) f (aD K (.bool (b1 || b2))) := fun σ H Hr Q E k => h σ H Hr _ E fun v H1 Hr1 x1 a1 => by
  refine ⟨(show 2 ≤ sizeLine by decide), fun p hn => ?_⟩
  have x2 : Ext H1 Hr1 (upd H1 p (.tup [.ty T, .ty U])) (upd Hr1 p (.tup [.ty T, .ty U])) := Ext.lay x1.s hn
  refine ⟨v, p, [.ty T, .ty U], _, [.type T, .type U], b1 || b2, rfl, upd_same, .cons (.ty T) (.cons (.ty U) .nil), ty_mono (((hp_sub fa).trans x2.r).trans x2.s) a1, ?_, k _ _ _ (x1.trans x2) (.bl _)⟩
  refine kitAny_cons (kit_ty hk) (fun e => ?_) (fun e => by rw [e]; rfl)
  subst e
  refine kitAny_cons (kit_ty hk2) (fun e => ?_) (fun e => by rw [e]; rfl)
  subst e
  exact kitAny_nil
theorem de_eqB {a b : Bool} (ha : DE H0 ρ ta fa (aD K (.bool a))) (hb : DE H0 ρ tb fb (aD K (.bool b))) : DE H0 ρ (tOp rEq ta tb) f (aD K (.bool (decide (a = b)))) := de_op ha hb fun x y Hr H Q _ p q k => by
  cases p; cases q
  exact ⟨rfl, k _ fun _ => by rw [show decide (V.bl a = V.bl b) = decide (a = b) by simp]; exact .bl _⟩
theorem de_neB {a b : Bool} (ha : DE H0 ρ ta fa (aD K (.bool a))) (hb : DE H0 ρ tb fb (aD K (.bool b))) : DE H0 ρ (tOp rNe ta tb) f (aD K (.bool (!decide (a = b)))) := de_op ha hb fun x y Hr H Q _ p q k => by
  cases p; cases q
  exact ⟨rfl, k _ fun _ => by rw [show decide (V.bl a = V.bl b) = decide (a = b) by simp]; exact .bl _⟩
end
/-! ### a def -/
theorem allp_get {H : Hp} : ∀ {As : List Abs} {vs : List V}, AllP As vs H → ∀ (i : Nat) (A : Abs), As[i]? = some A → ∃ v, vs[i]? = some v ∧ A.p v H
  | _, _, .nil, i, A, e => by simp at e
  | _, _, .cons h t, 0, A, e => by simp at e; subst e; exact ⟨_, rfl, h⟩
  | _, _, .cons h t, i + 1, A, e => by simpa using allp_get t i A (by simpa using e)
theorem env_start {H : Hp} : ∀ {As : List Abs} {vs : List V} (n : Nat), AllP As vs H → EnvOk H (vs.map some ++ List.replicate n none) (As.map Slot.dat ++ List.replicate n Slot.no) H H := fun {As vs} n h => by
  have hl := h.length
  have cls : ∀ (i : Nat) (s : Slot), (As.map Slot.dat ++ List.replicate n Slot.no)[i]? = some s → s = .no ∨ ∃ A, s = .dat A ∧ As[i]? = some A := fun i s hs => by
    by_cases hi : i < As.length
    · rw [List.getElem?_append_left (by simpa using hi), List.getElem?_map, List.getElem?_eq_getElem hi] at hs
      exact .inr ⟨As[i], (Option.some.inj hs).symm, List.getElem?_eq_getElem hi⟩
    · rw [List.getElem?_append_right (by simpa using Nat.le_of_not_lt hi)] at hs
      obtain ⟨z, e⟩ := List.getElem?_eq_some_iff.mp hs
      rw [List.getElem_replicate] at e
      exact .inl e.symm
  refine ⟨Same.refl _, Same.refl _, by simp [hl], fun i s hs => ?_, fun i j p B B' _ hi _ _ _ => ?_, .nil fun i A h => by rcases cls i _ h with e | ⟨A, e, _⟩ <;> cases e⟩
  · rcases cls i s hs with rfl | ⟨A, rfl, hA⟩
    · trivial
    · obtain ⟨v, h1, h2⟩ := allp_get h i A hA
      have hi : i < vs.length := (List.getElem?_eq_some_iff.mp h1).1
      exact ⟨v, by rw [List.getElem?_append_left (by simpa using hi), List.getElem?_map, h1]; rfl, h2⟩
  · rcases cls i _ hi with e | ⟨A, e, _⟩ <;> cases e
section
variable {P : Program} {w : World} {K : PySem.W.Frag} {mg : Str → Option Value} {base : Heap}
/-- the law itself: it hands back True -/
def spL (K : PySem.W.Frag) : Sp := fun vs H Q _ => ∃ (a : Addr) (ns : List Int), vs = [.ref a] ∧ SqL K H a (ns.map V.int) ∧ ns.length ≤ 63 ∧ ∀ H', Q (.bl true) H'
theorem dpa_ints {H : Hp} : ∀ ns : List Int, DpAll K H (ns.map V.int) (ns.map PyData.int)
  | [] => .nil
  | n :: ns => .cons (.int n) (dpa_ints ns)
end
end Kj

set_option Elab.async false
set_option linter.all false
set_option maxRecDepth 100000
set_option maxHeartbeats 4000000
namespace Kj
open PySem L2
/-- a def that stands under its name -/
def DefAt (P : Program) (w : World) (K : PySem.W.Frag) (mg : Str → Option Value) (base : Heap) (name : Str) (k : Nat) (ps : List Str) (sp : Sp) : Prop :=
  ∃ f fd, mg name = some (.ref f) ∧ PySem.W.keepIn K (.ref f) = true ∧ Binds K fd ps [] ∧ FnOk P w K mg base CX0 k f fd ps sp
theorem pe_callD {X : Cx} {k : Nat} {ps : List Str} {sp : Sp} {x : Str} {p pos : Pos} {e : Expr} {es : List Expr} {t : TA} (D : DefAt X.prog X.w X.K X.mg X.base x k ps sp) (hr : Room k X.A) (hg : Gl X x)
    (ha : PA X (e :: es) t) (hdb : (x == ("__debug__" : Str)) = false := by decide) (he : starEach (e :: es) X.env = (false, eval e X.env) :: starEach es X.env := by rfl) (hpl : (backTo pos (starEach es X.env)).any (·.1) = false := by rfl) :
    PE X (.Call (.Name x p) (e :: es) [] pos) (tCall sp [] E0 t) := by
  obtain ⟨f, fd, h1, h2, h3, h4⟩ := D
  exact pe_call h4 hr hg h1 h2 h3 .nil pass0 ha hdb he hpl
/-- one of many, by what is true of it -/
def aEx {α : Type} (P : α → Prop) (g : α → Abs) : Abs := ⟨fun v H => ∃ x, P x ∧ (g x).p v H, fun v H H' s ⟨x, h, q⟩ => ⟨x, h, (g x).mono _ _ _ s q⟩⟩
end Kj
namespace Kj
open PySem L2 PyProof.Rows
def CDivZ (_ j : Int) : Prop := j ≠ 0 ∧ j.natAbs.log2 < 9000
theorem atI_some {α : Type} {xs : List α} {i : Int} (h0 : 0 ≤ i) (h1 : i < xs.length) : atI xs i = some (xs[i.toNat]'(by omega)) := by
  unfold atI ixN
  rw [if_pos h0, if_pos h1]
  show xs[i.toNat]? = _
  rw [List.getElem?_eq_getElem]
theorem atI_map {α β : Type} {xs : List α} {g : α → β} {i : Int} (h0 : 0 ≤ i) (h1 : i < xs.length) : atI (xs.map g) i = some (g (xs[i.toNat]'(by omega))) := by
  rw [atI_some h0 (by simpa using h1)]
  simp
theorem cutD_map {α β : Type} (g : α → β) (xs : List α) (lo hi : Option Int) : cutD (xs.map g) lo hi = (cutD xs lo hi).map g := by
  unfold cutD
  rw [List.length_map, List.map_take, List.map_drop]
theorem sIx_nn (n d : Nat) {v : Int} (h : 0 ≤ v) : HT.sIx n d (some v) = min v.toNat n := by
  show (if v < 0 then (v + (n : Int)).toNat else min v.toNat n) = _
  rw [if_neg (by omega)]
theorem cutD_to {α : Type} (xs : List α) {n : Int} (h : 0 ≤ n) : cutD xs none (some n) = xs.take n.toNat := by
  unfold cutD
  rw [sIx_nn _ _ h, HT.sIx_none, List.drop_zero, Nat.sub_zero]
  by_cases h2 : n.toNat ≤ xs.length
  · rw [Nat.min_eq_left h2]
  · rw [Nat.min_eq_right (by omega), List.take_of_length_le (Nat.le_refl _), List.take_of_length_le (by omega)]
theorem cutD_from {α : Type} (xs : List α) {n : Int} (h : 0 ≤ n) : cutD xs (some n) none = xs.drop n.toNat := by
  unfold cutD
  rw [sIx_nn _ _ h, HT.sIx_none]
  by_cases h2 : n.toNat ≤ xs.length
  · rw [Nat.min_eq_left h2, List.take_of_length_le (by simp)]
  · rw [Nat.min_eq_right (by omega), List.take_of_length_le (by simp), List.drop_eq_nil_of_le (Nat.le_refl _), List.drop_eq_nil_of_le (by omega)]
end Kj

set_option Elab.async false
set_option linter.all false
set_option maxRecDepth 100000
set_option maxHeartbeats 4000000
namespace Kj
open PySem L2
abbrev FnP (K : PySem.W.Frag) (x qual : Str) (st : Stmt) (f : Addr) (fd : FuncData) : Prop := FunD K x qual (defArgs st) (defBody st) (defScope st) [] [] f fd
section
variable {P : Program} {w : World} {K : PySem.W.Frag} {mg : Str → Option Value} {base : Heap}
theorem fnD_ok {x qual : Str} {st : Stmt} {f : Addr} {fd : FuncData} {N ps : List Str} {k : Nat} {S : Spec} (F : FnP K x qual st f fd) (Sc : FnScope N ps (defScope st)) (len : ∀ As R, S As R → As.length = ps.length)
    (body : ∀ (cdv : Value) (A : Around) (outer : List Env) (s : Shared) (H : Hp) (E : XK), Room k (A.deeper (PyProof.Rows.envOfC qual (defScope st) s.heap.objs.size f cdv)) → ∀ As R, S As R →
      ∃ t, PSs (cxOf CX0 P w K mg base N qual (defScope st) f cdv A outer s H E).nox (defBody st) t ∧ ∀ H0, DS C0 H0 (As.map Slot.dat ++ List.replicate (N.length - As.length) Slot.no) t (fun _ => False) R) : FnOk P w K mg base CX0 (k + 1) f fd ps (spF S) := by
  refine F.ok Sc (fun vs H Q E h => ?_) (fun cdv A outer s H vs Q E hr h => ?_)
  · obtain ⟨As, R, h1, h2, _⟩ := h
    rw [← h2.length]; exact len As R h1
  · obtain ⟨As, R, h1, h2, h3⟩ := h
    obtain ⟨t, p, d⟩ := body cdv A outer s H E hr As R h1
    refine ⟨t, p.nox, d H _ H H _ ?_ (fun _ _ _ _ n _ _ => n.elim) (fun v H' s _ r => h3 v H' s r) (KX.no fun _ _ _ _ z => z)⟩
    have e := env_start (n := N.length - vs.length) h2
    unfold L2.start
    rw [h2.length]
    exact e
theorem lawD_ok {x qual : Str} {st : Stmt} {f : Addr} {fd : FuncData} {N : List Str} {p : Str} {k : Nat} (F : FnP K x qual st f fd) (Sc : FnScope N [p] (defScope st))
    (body : ∀ (cdv : Value) (A : Around) (outer : List Env) (s : Shared) (H : Hp) (E : XK), Room k (A.deeper (PyProof.Rows.envOfC qual (defScope st) s.heap.objs.size f cdv)) → ∀ ns : List Int, ns.length ≤ 63 →
      ∃ t, PSs (cxOf CX0 P w K mg base N qual (defScope st) f cdv A outer s H E).nox (defBody st) t ∧ ∀ H0, DS C0 H0 (Slot.dat (aD K (.list (ns.map .int))) :: List.replicate (N.length - 1) Slot.no) t (fun _ => False) (aD K (.bool true))) : FnOk P w K mg base CX0 (k + 1) f fd [p] (spL K) := by
  refine F.ok Sc (fun vs H Q E h => ?_) (fun cdv A outer s H vs Q E hr h => ?_)
  · obtain ⟨a, ns, rfl, _⟩ := h
    rfl
  · obtain ⟨a, ns, rfl, h1, h2, h3⟩ := h
    obtain ⟨t, p, d⟩ := body cdv A outer s H E hr ns h2
    refine ⟨t, p.nox, d H _ H H _ ?_ (fun _ _ _ _ n _ _ => n.elim) (fun v H' s _ r => by cases r; exact h3 H') (KX.no fun _ _ _ _ z => z)⟩
    exact env_start (As := [aD K (.list (ns.map .int))]) (vs := [.ref a]) (n := N.length - 1) (.cons (Dp.lst h1 (dpa_ints ns)) .nil)
theorem defAt {x qual name : Str} {st : Stmt} {f : Addr} {fd : FuncData} {k : Nat} {ps : List Str} {sp : Sp} (F : FnP K x qual st f fd) (hg : mg name = some (.ref f)) (G : FnOk P w K mg base CX0 k f fd ps sp)
    (h : ∀ (kV doc pm : Value) (an : Option Addr) (cdv ct : Value) (us : List Value), us.length = ps.length → bindArgs (PySem.W.fnOf x qual (defArgs st) (defBody st) (defScope st) .none kV doc pm an cdv ct) ⟨us, []⟩ = pure (ps.zip us)) : DefAt P w K mg base name k ps sp :=
  ⟨f, fd, hg, F.kp, F.bindsN h, G⟩
end
section
variable {C : WZ} {H0 : Hp} {ρ : List Slot} {K : PySem.W.Frag} {f fa fb fc : Bool} {ta tb tc te : TE} {a b c : Bool} {N N1 : List Slot → Prop} {R : Abs} {t u w : TS}
end
end Kj

set_option Elab.async false
set_option linter.all false
set_option maxRecDepth 100000
set_option maxHeartbeats 4000000
/-! Kj6: what is raised. -/
namespace Kj
open PySem L2
def xNo (C : Addr) : XA := fun cls d _ => cls = .ref C ∧ d = none
inductive Out where
  | ret (R : Abs)
  | exc (X : XA)
abbrev SpecX := List Abs → Out → Prop
def spX (S : SpecX) : Sp := fun vs H Q E => ∃ As O, S As O ∧ AllP As vs H ∧ match O with
  | .ret R => ∀ v H', Same H H' → R.p v (mns H' H) → Q v H'
  | .exc X => ∀ cls d H', Same H H' → X cls d H' → E cls d H'
/-- a def that may raise, where it does not -/
theorem FnOk.calm {P : Program} {w : World} {K : PySem.W.Frag} {mg : Str → Option Value} {base : Heap} {k : Nat} {f : Addr} {fd : FuncData} {ps : List Str} {S : SpecX} (F : FnOk P w K mg base (L2.CX P w) k f fd ps (spX S)) :
    FnOk P w K mg base CX0 k f fd ps (spF fun As R => S As (.ret R)) := by
  refine ⟨fun vs H Q E h => ?_, fun A outer s H args us vs Q E hr he hb hv hs => ?_⟩
  · obtain ⟨As, R, h1, h2, h3⟩ := h
    exact F.len vs H Q E ⟨As, .ret R, h1, h2, h3⟩
  · obtain ⟨As, R, h1, h2, h3⟩ := hs
    refine codeAny_mono (F.run A outer s H args us vs Q E0 hr he hb hv ⟨As, .ret R, h1, h2, h3⟩) fun r s' q => ?_
    cases r with
    | ok fl => cases fl <;> exact q
    | error e =>
      obtain ⟨_, _, _, _, _, _, _, _, _, _, _, _, z⟩ := q
      exact z.elim
def RE (W : WX) (H0 : Hp) (ρ : List Slot) (t : TE) (X : XA) : Prop :=
  ∀ (σ : St) (H Hr : Hp) (Q : VK), EnvOk H0 σ ρ H Hr → (∀ cls d H' Hr', Ext H Hr H' Hr' → X cls d H' → W cls d σ H') → t σ H Q
section
variable {W : WX} {H0 : Hp} {ρ : List Slot} {K : PySem.W.Frag} {f fa fb : Bool} {ta tb te : TE} {a b : Bool} {N N1 : List Slot → Prop} {R : Abs} {t u w : TS} {Z : List Slot → XA} {X : XA}
theorem de_callS {S : SpecX} {As : List Abs} {R : Abs} {t : TA} {Ex : St → XK} {ρ' : List Slot} (bo : Bo H0 ρ ρ') (ha : DA H0 ρ' t false As) (hs : S As (.ret R)) : DE H0 ρ (tCallS (spX S) Ex t) f R := fun σ H Hr Q E k => by
  obtain ⟨Hr', s, E'⟩ := bo σ H Hr E
  refine ha σ H Hr' _ E' fun vs H1 Hr1 x1 a1 => ?_
  refine ⟨As, .ret R, hs, a1.mono x1.s, fun v H2 s2 r2 => k v H2 _ (Ext.call E.sub x1.h s2) ?_⟩
  have r3 := R.mono _ _ _ (joinH_new E.base E.sub x1.h) r2
  cases f
  · exact R.mono _ _ _ mns_sub r3
  · exact r3
theorem re_callS {S : SpecX} {As : List Abs} {t : TA} {ρ' : List Slot} (bo : Bo H0 ρ ρ') (ha : DA H0 ρ' t false As) (hs : S As (.exc X)) : RE W H0 ρ (tCallS (spX S) (WE W) t) X := fun σ H Hr Q E k => by
  obtain ⟨Hr', s, E'⟩ := bo σ H Hr E
  refine ha σ H Hr' _ E' fun vs H1 Hr1 x1 a1 => ?_
  exact ⟨As, .exc X, hs, a1.mono x1.s, fun cls d H2 s2 r2 => k cls d H2 _ (Ext.call E.sub x1.h s2) r2⟩
def tTry (K : PySem.W.Frag) (Wout : WX) (l : List (Value × (Addr → Value → Option Addr → TS))) (tb : WX → TS) : TS := fun D σ H => tb (wMany K Wout D l) D σ H
/-- except clauses: which one takes it -/
inductive Hnd (K : PySem.W.Frag) (C : WZ) (H0 : Hp) (N : List Slot → Prop) (R : Abs) : List (Value × (Addr → Value → Option Addr → TS)) → List Slot → Value → Option Addr → Prop
  | here {c : Value} {ts : Addr → Value → Option Addr → TS} {l : List (Value × (Addr → Value → Option Addr → TS))} {ρ : List Slot} {cls : Value} {d : Option Addr} : PySem.W.exmOne K cls c = some true → (∀ a, DS C H0 ρ (ts a cls d) N R) → Hnd K C H0 N R ((c, ts) :: l) ρ cls d
  | next {c : Value} {ts : Addr → Value → Option Addr → TS} {l : List (Value × (Addr → Value → Option Addr → TS))} {ρ : List Slot} {cls : Value} {d : Option Addr} : PySem.W.exmOne K cls c = some false → Hnd K C H0 N R l ρ cls d → Hnd K C H0 N R ((c, ts) :: l) ρ cls d
end
def aNo : Abs := ⟨fun _ _ => False, fun _ _ _ _ h => h⟩
abbrev outR : Out → Abs | .ret R => R | .exc _ => aNo
abbrev outZ : Out → List Slot → XA | .ret _ => fun _ _ _ _ => False | .exc X => fun _ => X
section
variable {P : Program} {w : World} {K : PySem.W.Frag} {mg : Str → Option Value} {base : Heap}
theorem fnX_ok {x qual : Str} {st : Stmt} {f : Addr} {fd : FuncData} {N ps : List Str} {k : Nat} {S : SpecX} (F : FnP K x qual st f fd) (Sc : FnScope N ps (defScope st)) (len : ∀ As O, S As O → As.length = ps.length)
    (body : ∀ (cdv : Value) (A : Around) (outer : List Env) (s : Shared) (H : Hp) (E : XK), Room k (A.deeper (PyProof.Rows.envOfC qual (defScope st) s.heap.objs.size f cdv)) →
      ∃ t, PSs (cxOf (L2.CX P w) P w K mg base N qual (defScope st) f cdv A outer s H E) (defBody st) t ∧ ∀ H0 As O, S As O → DS ⟨fun cls d _ H => E cls d H, outZ O⟩ H0 (As.map Slot.dat ++ List.replicate (N.length - As.length) Slot.no) t (fun _ => ∀ G, (outR O).p .non G) (outR O)) : FnOk P w K mg base (L2.CX P w) (k + 1) f fd ps (spX S) := by
  refine F.ok Sc (fun vs H Q E h => ?_) (fun cdv A outer s H vs Q E hr h => ?_)
  · obtain ⟨As, O, h1, h2, _⟩ := h
    rw [← h2.length]; exact len As O h1
  · obtain ⟨As, O, h1, h2, h3⟩ := h
    obtain ⟨t, p, d⟩ := body cdv A outer s H E hr
    have e := env_start (n := N.length - vs.length) h2
    refine ⟨t, p, d H As O h1 _ H H _ ?_ (fun _ _ H' _ n E' _ => ?_) (fun v H' s _ r => ?_) (fun ρ' σ' H' Hr' cls dd z E' s => ?_)⟩
    · unfold L2.start
      rw [h2.length]
      exact e
    · cases O with
      | ret R => exact h3 .non H' E'.base (n _)
      | exc X => exact (n (fun _ => none)).elim
    · cases O with
      | ret R => exact h3 v H' s r
      | exc X => exact r.elim
    · cases O with
      | ret R => exact z.elim
      | exc X => exact h3 cls dd H' E'.base z
def DefAtX (P : Program) (w : World) (K : PySem.W.Frag) (mg : Str → Option Value) (base : Heap) (name : Str) (k : Nat) (ps : List Str) (sp : Sp) : Prop :=
  ∃ f fd, mg name = some (.ref f) ∧ PySem.W.keepIn K (.ref f) = true ∧ Binds K fd ps [] ∧ FnOk P w K mg base (L2.CX P w) k f fd ps sp
theorem DefAtX.calm {name : Str} {k : Nat} {ps : List Str} {S : SpecX} (D : DefAtX P w K mg base name k ps (spX S)) : DefAt P w K mg base name k ps (spF fun As R => S As (.ret R)) := by
  obtain ⟨f, fd, h1, h2, h3, h4⟩ := D
  exact ⟨f, fd, h1, h2, h3, FnOk.calm h4⟩
theorem defAtX {x qual name : Str} {st : Stmt} {f : Addr} {fd : FuncData} {k : Nat} {ps : List Str} {sp : Sp} (F : FnP K x qual st f fd) (hg : mg name = some (.ref f)) (G : FnOk P w K mg base (L2.CX P w) k f fd ps sp)
    (h : ∀ (kV doc pm : Value) (an : Option Addr) (cdv ct : Value) (us : List Value), us.length = ps.length → bindArgs (PySem.W.fnOf x qual (defArgs st) (defBody st) (defScope st) .none kV doc pm an cdv ct) ⟨us, []⟩ = pure (ps.zip us)) : DefAtX P w K mg base name k ps sp :=
  ⟨f, fd, hg, F.kp, F.bindsN h, G⟩
end
theorem pe_callX {X : Cx} {W : WX} {k : Nat} {ps : List Str} {sp : Sp} {x : Str} {p pos : Pos} {e : Expr} {es : List Expr} {t : TA} (D : DefAtX X.prog X.w X.K X.mg X.base x k ps sp) (hr : Room k X.A) (tk : Takes X W) (hg : Gl X x)
    (ha : PA X (e :: es) t) (hdb : (x == ("__debug__" : Str)) = false := by decide) (he : starEach (e :: es) X.env = (false, eval e X.env) :: starEach es X.env := by rfl) (hpl : (backTo pos (starEach es X.env)).any (·.1) = false := by rfl) :
    PE X (.Call (.Name x p) (e :: es) [] pos) (tCallS sp (WE W) t) := by
  obtain ⟨f, fd, h1, h2, h3, h4⟩ := D
  exact pe_callS h4 hr hg h1 h2 h3 (fun σ => passAt tk σ) ha hdb he hpl
section
variable {X : Cx} {pn : List (Addr × Obj)} {xe : Value → Shared → Prop}
/-! in the body of a try: the written part is the def's -/
end
/-- what the written part says of an own exception class without __init__ -/
structure ExcT (K : PySem.W.Frag) (mg : Str → Option Value) (x : Str) (C : Addr) : Prop where
  g : mg x = some (.ref C)
  e : PySem.W.excIn K C He.veBase "ValueError.__new__" = true
  k : PySem.W.keepIn K (.ref C) = true
  b : PySem.W.subIn K (.ref C) (.type "BaseException") = some true
  t : PySem.W.typeIn K (.ref C) = some (.type "type")
theorem ps_raiseX {X : Cx} {W : WX} {x m : Str} {j : Nat} {p p2 pos pos2 : Pos} {C : Addr} (T : ExcT X.K X.mg x C) (hc : X.calm = true) (tk : Takes X W) (hg : Gl X x) (hdb : (x == ("__debug__" : Str)) = false := by decide) :
    PS X (.Raise (some (.Call (.Name x p) [.Constant (.str m) j p2] [] pos)) none pos2) (fun _ σ H => W (.ref C) none σ H) :=
  ps_raise (t := fun _ H Q => Q (.ref C) none H) hc tk (pmk_own PySem.F.excBase_ValueError T.e T.g T.k (raises_own T.b T.t) hg hdb)
end Kj

set_option Elab.async false
set_option linter.all false
set_option maxRecDepth 100000
set_option maxHeartbeats 4000000
/-! Kj7: walks, comprehensions. -/
namespace Kj
open PySem L2
/-! ### what a loop walks -/
def Wk (H0 : Hp) (J : It) (n : Nat) (f : Bool) (As : Nat → Abs) (Hr : Hp) : Prop :=
  ∀ H Hr', Same Hr Hr' → Same Hr' H → Same H0 H →
    (∀ i, i < n → J.go i H ∧ ∀ x H', J.yld i H x H' → ∃ Hr'', Ext H Hr' H' Hr'' ∧ (As i).p x (hp f Hr'' H0)) ∧ J.stop n H
def DW (H0 : Hp) (ρ : List Slot) (wi : TI) (n : Nat) (f : Bool) (As : Nat → Abs) : Prop :=
  ∀ (σ : St) (H Hr : Hp) (R : It → Hp → Prop), EnvOk H0 σ ρ H Hr → (∀ J H' Hr', Ext H Hr H' Hr' → Wk H0 J n f As Hr' → R J H') → wi σ H R
/-- a target -/
def DG (H0 : Hp) (ρ : List Slot) (g : TG) (f : Bool) (A : Abs) (ρ' : List Slot) (vs : List Nat) : Prop :=
  ∀ (σ : St) (H Hr : Hp) (v : V) (Q : St → Hp → Prop), EnvOk H0 σ ρ H Hr → A.p v (hp f Hr H0) → (∀ σ', EnvOk H0 σ' ρ' H Hr → wipe σ' vs = wipe σ vs → Q σ' H) → g v σ H Q
theorem wipe_set {i : Nat} {x : Option V} : ∀ {vs : List Nat} {σ : St}, i ∈ vs → wipe (σ.set i x) vs = wipe σ vs := fun {vs σ} h => by
  apply List.ext_getElem?
  intro j
  by_cases hj : j ∈ vs
  · have a : ∀ τ : St, τ.length = σ.length → (wipe τ vs)[j]? = if j < σ.length then some none else none := fun τ hτ => by
      clear h
      induction vs with
      | nil => cases hj
      | cons v vs ih =>
        unfold wipe
        by_cases e : v = j
        · subst e
          by_cases hl : v < σ.length
          · rw [List.getElem?_set_self (by rw [wipe_length, hτ]; exact hl), if_pos hl]
          · rw [if_neg hl, List.getElem?_eq_none (by rw [List.length_set, wipe_length, hτ]; omega)]
        · rw [List.getElem?_set_ne e]
          exact ih (by rcases List.mem_cons.mp hj with h | h; exact absurd h.symm e; exact h)
    rw [a _ (by simp), a _ rfl]
  · rw [wipe_out hj, wipe_out hj, List.getElem?_set_ne (fun e => hj (by rw [← e]; exact h))]
section
variable {C : WZ} {H0 : Hp} {ρ : List Slot} {K : PySem.W.Frag} {f fa fb fc : Bool} {ta tb tc te : TE} {a b c : Bool} {N N1 : List Slot → Prop} {R : Abs} {t u w : TS}
theorem dw_list {ds : List PyData} {tl : TE} (h : DE H0 ρ tl f (aD K (.list ds))) : DW H0 ρ (iList K tl) ds.length f (fun i => aD K (ds.getD i .none)) := fun σ H Hr R E k => by
  refine h σ H Hr _ E fun v H1 Hr1 x1 a1 => ?_
  cases a1 with
  | @lst a xs _ hq hA =>
    refine ⟨a, rfl, ⟨xs, ((hp_sub f).trans x1.s).seq hq⟩, k _ H1 Hr1 x1 fun G Gr s1 s2 s3 => ?_⟩
    have q : SqL K G a xs := ((hp_sub f).trans (s1.trans s2)).seq hq
    have hl := dpa_len hA
    refine ⟨fun i hi => ⟨⟨xs, xs[i]'(by omega), q, List.getElem?_eq_getElem _⟩, ?_⟩, ⟨xs, q, by omega⟩⟩
    rintro x G' ⟨rfl, hx⟩
    obtain ⟨d, e1, e2⟩ := dpa_get hA (hx xs q)
    refine ⟨Gr, Ext.refl s2, ?_⟩
    show Dp K _ x (ds.getD i .none)
    rw [List.getD_eq_getElem?_getD, e1]
    exact dp_mono (hp_mono f H0 s1) _ _ e2
theorem dw_str {z : Str} (h : DE H0 ρ te fa (aD K (.str z))) : DW H0 ρ (iStr te) z.cps.size f (fun i => aD K (.str ⟨#[z.cps.getD i 0]⟩)) := fun σ H Hr R E k => by
  refine h σ H Hr _ E fun v H1 Hr1 x1 a1 => ?_
  cases a1
  refine ⟨z, rfl, k _ H1 Hr1 x1 fun G Gr s1 s2 s3 => ⟨fun i hi => ⟨hi, ?_⟩, Nat.le_refl _⟩⟩
  rintro x G' ⟨rfl, c, hc, rfl⟩
  refine ⟨Gr, Ext.refl s2, ?_⟩
  have e : z.cps.getD i 0 = c := by
    rw [Array.getD_eq_getD_getElem?, hc]; rfl
  show Dp K _ (.str ⟨#[c]⟩) (.str ⟨#[z.cps.getD i 0]⟩)
  rw [e]
  exact .str _
theorem dw_rng1 {j : Int} (h : DE H0 ρ te fa (aD K (.int j))) (hb1 : -(2 ^ 62) ≤ j) (hb2 : j < 2 ^ 62) : DW H0 ρ (iRng1 (tCons te tNil)) j.toNat f (fun i => aD K (.int i)) := fun σ H Hr R E k => by
  refine h σ H Hr _ E fun v H1 Hr1 x1 a1 => ?_
  cases a1
  refine ⟨j, rfl, hb1, hb2, k _ H1 Hr1 x1 fun G Gr s1 s2 s3 => ⟨fun i hi => ⟨hi, ?_⟩, Nat.le_refl _⟩⟩
  rintro x G' ⟨rfl, rfl⟩
  refine ⟨Gr, Ext.refl s2, ?_⟩
  rw [Int.zero_add]
  exact .int _
theorem dw_rng2 {l j : Int} (h : DE H0 ρ ta fa (aD K (.int l))) (h' : DE H0 ρ tb fb (aD K (.int j))) (hb : -(2 ^ 62) ≤ l ∧ l < 2 ^ 62 ∧ -(2 ^ 62) ≤ j ∧ j < 2 ^ 62) : DW H0 ρ (iRng2 (tCons ta (tCons tb tNil))) (j - l).toNat f (fun i => aD K (.int (l + i))) := fun σ H Hr R E k => by
  refine h σ H Hr _ E fun v H1 Hr1 x1 a1 => h' σ H1 Hr1 _ (E.ext x1) fun v2 H2 Hr2 x2 a2 => ?_
  cases a1; cases a2
  refine ⟨l, j, rfl, hb, k _ H2 Hr2 (x1.trans x2) fun G Gr s1 s2 s3 => ⟨fun i hi => ⟨hi, ?_⟩, Nat.le_refl _⟩⟩
  rintro x G' ⟨rfl, rfl⟩
  exact ⟨Gr, Ext.refl s2, .int _⟩
theorem dw_zip {ds es : List PyData} (h : DE H0 ρ ta f (aD K (.list ds))) (h' : DE H0 ρ tb f (aD K (.list es))) : DW H0 ρ (iZip K (tCons ta (tCons tb tNil))) (min ds.length es.length) f (fun i => aD K (.tuple [ds.getD i .none, es.getD i .none])) := fun σ H Hr R E k => by
  refine h σ H Hr _ E fun v H1 Hr1 x1 a1 => h' σ H1 Hr1 _ (E.ext x1) fun v2 H2 Hr2 x2 a2 => ?_
  cases a1 with
  | @lst a xs _ hq hA =>
    cases a2 with
    | @lst b ys _ hq2 hB =>
      have hA2 := dpa_mono (hp_mono f H0 x2.r) _ _ hA
      refine ⟨a, b, xs, ys, rfl, ((hp_sub f).trans (x2.r.trans x2.s)).seq hq, ((hp_sub f).trans x2.s).seq hq2, k _ H2 Hr2 (x1.trans x2) fun G Gr s1 s2 s3 => ?_⟩
      have q1 : SqL K G a xs := ((hp_sub f).trans (x2.r.trans (s1.trans s2))).seq hq
      have q2 : SqL K G b ys := ((hp_sub f).trans (s1.trans s2)).seq hq2
      have l1 := dpa_len hA
      have l2 := dpa_len hB
      refine ⟨fun i hi => ⟨⟨xs, ys, xs[i]'(by omega), ys[i]'(by omega), q1, q2, List.getElem?_eq_getElem _, List.getElem?_eq_getElem _⟩, ?_⟩, ⟨xs, ys, q1, q2, by omega⟩⟩
      rintro v G' ⟨T, x, y, rfl, hT, rfl, hx, hy⟩
      obtain ⟨d, e1, e2⟩ := dpa_get hA2 (hx xs q1)
      obtain ⟨e, e3, e4⟩ := dpa_get hB (hy ys q2)
      have xt : Ext G Gr (upd G T (.tup [x, y])) (upd Gr T (.tup [x, y])) := Ext.lay s2 hT
      refine ⟨_, xt, ?_⟩
      show Dp K _ (.ref T) (.tuple [ds.getD i .none, es.getD i .none])
      rw [List.getD_eq_getElem?_getD, List.getD_eq_getElem?_getD, e1, e3]
      refine .tup (SqT.of (hp_lay f s3 hT)) (.cons (dp_mono (hp_mono f H0 (s1.trans xt.r)) _ _ e2) (.cons (dp_mono (hp_mono f H0 (s1.trans xt.r)) _ _ e4) .nil))
theorem dw_enum {ds : List PyData} (h : DE H0 ρ ta f (aD K (.list ds))) : DW H0 ρ (iEnum K (tCons ta tNil)) ds.length f (fun i => aD K (.tuple [.int i, ds.getD i .none])) := fun σ H Hr R E k => by
  refine h σ H Hr _ E fun v H1 Hr1 x1 a1 => ?_
  cases a1 with
  | @lst a xs _ hq hA =>
    refine ⟨a, xs, rfl, ((hp_sub f).trans x1.s).seq hq, k _ H1 Hr1 x1 fun G Gr s1 s2 s3 => ?_⟩
    have q1 : SqL K G a xs := ((hp_sub f).trans (s1.trans s2)).seq hq
    have l1 := dpa_len hA
    refine ⟨fun i hi => ⟨⟨xs, xs[i]'(by omega), q1, List.getElem?_eq_getElem _⟩, ?_⟩, ⟨xs, q1, by omega⟩⟩
    rintro v G' ⟨T, x, rfl, hT, rfl, hx⟩
    obtain ⟨d, e1, e2⟩ := dpa_get hA (hx xs q1)
    have xt : Ext G Gr (upd G T (.tup [.int (i : Nat), x])) (upd Gr T (.tup [.int (i : Nat), x])) := Ext.lay s2 hT
    refine ⟨_, xt, ?_⟩
    show Dp K _ (.ref T) (.tuple [.int i, ds.getD i .none])
    rw [List.getD_eq_getElem?_getD, e1]
    exact .tup (SqT.of (hp_lay f s3 hT)) (.cons (.int _) (.cons (dp_mono (hp_mono f H0 (s1.trans xt.r)) _ _ e2) .nil))
theorem dg_name {i : Nat} {A : Abs} {vs : List Nat} (hi : Nat.blt i ρ.length = true := by rfl) (hv : vs.contains i = true := by rfl) : DG H0 ρ (gName i) f A (ρ.set i (sl f A)) vs := fun σ H Hr v Q E h k =>
  k _ (E.set (lt_of hi) h) (wipe_set (by simpa using hv))
theorem dg_pair {i j : Nat} {d e : PyData} {vs : List Nat} (hi : Nat.blt i ρ.length = true := by rfl) (hj : Nat.blt j ρ.length = true := by rfl) (hv : vs.contains i = true := by rfl) (hw : vs.contains j = true := by rfl) :
    DG H0 ρ (gTup K 2 (gCons (gName i) (gCons (gName j) gNil))) f (aD K (.tuple [d, e])) ((ρ.set i (sl f (aD K d))).set j (sl f (aD K e))) vs := fun σ H Hr v Q E h k => by
  cases h with
  | @tup a xs _ hs hA =>
    cases hA with
    | cons h1 hA =>
      cases hA with
      | cons h2 hA =>
        cases hA
        refine ⟨a, _, rfl, seqT ((hp_sub f).trans E.sub) hs, rfl, _, _, rfl, _, _, rfl, rfl, k _ ((E.set (lt_of hi) h1).set (by rw [List.length_set]; exact lt_of hj) h2) ?_⟩
        rw [wipe_set (by simpa using hw), wipe_set (by simpa using hv)]
def noOwn (ρ : List Slot) : Bool := ρ.all fun s => match s with | .own _ => false | _ => true
def wipeS (ρ : List Slot) : List Nat → List Slot
  | [] => ρ
  | v :: vs => (wipeS ρ vs).set v .no
def noReg (ρ : List Slot) : Bool := ρ.all fun s => match s with | .reg _ => false | _ => true
theorem noReg_at {ρ : List Slot} (h : noReg ρ = true) : ∀ (i : Nat) (A : Abs), ρ[i]? ≠ some (.reg A) := fun i A e => by
  unfold noReg at h
  rw [List.all_eq_true] at h
  exact Bool.noConfusion (h _ (List.mem_of_getElem? e))
theorem EnvOk.unset {σ : St} {H Hr : Hp} (E : EnvOk H0 σ ρ H Hr) (i : Nat) : EnvOk H0 (σ.set i none) (ρ.set i .no) H Hr := by
  have old : ∀ (j : Nat) (s : Slot), (ρ.set i .no)[j]? = some s → s = .no ∨ (ρ[j]? = some s ∧ j ≠ i) := fun j s h => by
    by_cases e : i = j
    · subst e
      by_cases hl : i < ρ.length
      · rw [List.getElem?_set_self hl] at h; exact .inl (Option.some.inj h).symm
      · rw [List.getElem?_eq_none (by rw [List.length_set]; omega)] at h; cases h
    · rw [List.getElem?_set_ne e] at h; exact .inr ⟨h, Ne.symm e⟩
  refine ⟨E.base, E.sub, by simp [E.len], fun j s hs => ?_, fun j k p B B' hjk hj hk ej ek => ?_, E.reg.set1 (fun j n => List.getElem?_set_ne (Ne.symm n)) (fun A z => by cases z) (fun B z => by cases z) fun a o h1 h2 h3 _ => ⟨h1, h2, h3⟩⟩
  · rcases old j s hs with rfl | ⟨h, hne⟩
    · trivial
    · have q := E.slot j s h
      have e : (σ.set i none)[j]? = σ[j]? := List.getElem?_set_ne (Ne.symm hne)
      cases s with
      | no => trivial
      | reg A => trivial
      | dat A => unfold SlotOk at q ⊢; rw [e]; exact q
      | new A => unfold SlotOk at q ⊢; rw [e]; exact q
      | own B => unfold SlotOk at q ⊢; rw [e]; exact q
  · rcases old j _ hj with h | ⟨h1, n1⟩
    · cases h
    · rcases old k _ hk with h | ⟨h2, n2⟩
      · cases h
      · rw [List.getElem?_set_ne (Ne.symm n1)] at ej
        rw [List.getElem?_set_ne (Ne.symm n2)] at ek
        exact E.dis j k p B B' hjk h1 h2 ej ek
theorem EnvOk.wipe {σ : St} {H Hr : Hp} (E : EnvOk H0 σ ρ H Hr) : ∀ vs : List Nat, EnvOk H0 (L2.wipe σ vs) (wipeS ρ vs) H Hr
  | [] => E
  | v :: vs => (E.wipe vs).unset v
theorem noReg_set {i : Nat} {s : Slot} (h : noReg ρ = true) (hs : noReg [s] = true) : noReg (ρ.set i s) = true := by
  unfold noReg at *
  rw [List.all_eq_true] at *
  intro x hx
  rcases List.mem_or_eq_of_mem_set hx with h1 | h1
  · exact h x h1
  · subst h1; exact hs x (by simp)
theorem noReg_wipe (h : noReg ρ = true) : ∀ vs : List Nat, noReg (wipeS ρ vs) = true
  | [] => h
  | v :: vs => noReg_set (noReg_wipe h vs) rfl
/-- outside of all slots, the heap may change -/
theorem EnvOk.out {σ : St} {H Hr : Hp} (E : EnvOk H0 σ ρ H Hr) (hn : noOwn ρ = true) (nr : noReg ρ = true) {D : Addr} {o : HO} (h0 : H0 D = none) (hr : Hr D = none) : EnvOk H0 σ ρ (upd H D o) Hr := by
  have no : ∀ (i : Nat) (B : AbsO), ρ[i]? ≠ some (.own B) := fun i B h => by
    unfold noOwn at hn
    rw [List.all_eq_true] at hn
    exact Bool.noConfusion (hn _ (List.mem_of_getElem? h))
  refine ⟨fun a u e => ?_, fun a u e => ?_, E.len, fun i s hs => ?_, fun j k p B B' _ hj _ _ _ => absurd hj (no j B), .nil (noReg_at nr)⟩
  · rw [upd_ne (ne_of_none e h0)]; exact E.base _ _ e
  · rw [upd_ne (ne_of_none e hr)]; exact E.sub _ _ e
  · have q := E.slot i s hs
    cases s with
    | no => trivial
    | dat A => exact q
    | new A => exact q
    | reg A => trivial
    | own B => exact absurd hs (no i B)
/-- what a comprehension makes: of each turn, given or left out -/
def made (e : Nat → Option PyData) : Nat → List PyData
  | 0 => []
  | n + 1 => made e n ++ (e n).toList
theorem made_len (e : Nat → Option PyData) : ∀ n, (made e n).length ≤ n
  | 0 => Nat.le_refl _
  | n + 1 => by
    unfold made
    rw [List.length_append]
    have := made_len e n
    have : (e n).toList.length ≤ 1 := by cases e n <;> simp
    omega
theorem dt_yes : DT K H0 ρ tYes true := fun σ H Hr Q E k => k H Hr (Ext.refl E.sub)
theorem made_all (g : Nat → PyData) : ∀ n, made (fun k => some (g k)) n = (List.range n).map g
  | 0 => rfl
  | n + 1 => by
    unfold made
    rw [made_all g n, List.range_succ, List.map_append]
    rfl
end
end Kj

set_option Elab.async false
set_option linter.all false
set_option maxRecDepth 100000
set_option maxHeartbeats 4000000
/-! Kj8: objects that are made once; more of lists and texts. -/
namespace Kj
section
open PySem MeetsSeq PySem.AutoSeq1
theorem cat_meets {l b : Addr} {xs ys : Array Value} {n m : Nat} {u v : Array (Option Value)} (hz : xs.size + ys.size ≤ sizeLine) :
    Meets (Builtin.«list.__add__» ⟨[.ref l, .ref b], []⟩) fun _ R s => s.heap.get? l = some ⟨.type "list", none, .seq xs n, u⟩ ∧ s.heap.get? b = some ⟨.type "list", none, .seq ys m, v⟩ ∧
      R (.ok (.ret (.ref s.heap.objs.size))) { s with heap := s.heap.push { cls := .type "list", data := .seq (xs ++ ys) }, toks := s.toks } :=
  .of_wp fun P w A R s h => by
    obtain ⟨hp, g, d, tk, os⟩ := s
    obtain ⟨h1, h2, h⟩ := h
    have i1 := idx_int
    have i2 := sub_tuple_tuple
    have i3 := sub_list_list
    have i4 := sub_tuple_list
    have i5 := sub_list_tuple
    wp_walk using wpAny_loadPart' h1, wpAny_loadPart' h2
    exact ⟨_, rfl, h⟩
end
open PySem L2
/-- list + list, of any readable lists -/
def rCatS (K : PySem.W.Frag) : R2 := fun x y H Q => ∃ l b xs zs, x = .ref l ∧ y = .ref b ∧ SqL K H l xs ∧ SqL K H b zs ∧ xs.length + zs.length ≤ sizeLine ∧ ∀ p, H p = none → Q (.ref p) (upd H p (.lst (xs ++ zs)))
theorem op_catS {X : Cx} : OpR X (binaryOp .Add) (rCatS X.K) := by
  intro pins s σ H x y v u Q I rx ry h
  obtain ⟨l, b, xs, zs, rfl, rfl, hH, hB, hz, q⟩ := h
  cases rx
  cases ry
  obtain ⟨its, r, ⟨⟨oc, od, odt, osl⟩, n, e, ec, ed, ee⟩, _⟩ := I.list hH
  obtain ⟨its2, r2, ⟨⟨oc2, od2, odt2, osl2⟩, n2, e2, ec2, ed2, ee2⟩, _⟩ := I.list hB
  dsimp only at ec ed ee ec2 ed2 ee2
  subst ec ed ee ec2 ed2 ee2
  have l1 := r.length
  have l2 := r2.length
  have ea : its.toArray ++ its2.toArray = (its ++ its2).toArray := by simp
  refine concat_meets ⟨_, e, rfl⟩ ⟨_, e2, rfl⟩ noFill_list_add seq_list_add F.slot_list_add F.entry_list_add (F.args_list_add_2 _ _) (cat_meets (by rw [List.size_toArray, List.size_toArray]; omega)) ⟨e, e2, ?_⟩
  rw [ea]
  exact ⟨.ref _, _, I.lnew (t' := s.toks) (r.append r2) (by rw [List.length_append]; omega), rfl, q _ I.fresh⟩
section
variable {H0 : Hp} {ρ : List Slot} {K : PySem.W.Frag} {f fa fb fc : Bool} {ta tb tc te : TE} {a b c : Bool} {N N1 : List Slot → Prop} {R : Abs} {t u w : TS}
theorem de_cat {ds es : List PyData} (ha : DE H0 ρ ta f (aD K (.list ds))) (hb : DE H0 ρ tb f (aD K (.list es))) (hl : ds.length + es.length ≤ 100000) : DE H0 ρ (tOp (rCatS K) ta tb) f (aD K (.list (ds ++ es))) := fun σ H Hr Q E k => by
  refine ha σ H Hr _ E fun x H1 Hr1 x1 a1 => hb σ H1 Hr1 _ (E.ext x1) fun y H2 Hr2 x2 a2 => ?_
  cases a1 with
  | @lst p xs _ hs hA =>
    cases a2 with
    | @lst q ys _ hs2 hB =>
      have l1 := dpa_len hA
      have l2 := dpa_len hB
      refine ⟨p, q, xs, ys, rfl, rfl, ((hp_sub f).trans (x2.r.trans x2.s)).seq hs, ((hp_sub f).trans x2.s).seq hs2, Nat.le_trans (show _ ≤ 100000 by omega) (by rw [sizeLine_eq]; decide), fun r hn => ?_⟩
      have xt : Ext H2 Hr2 (upd H2 r (.lst (xs ++ ys))) (upd Hr2 r (.lst (xs ++ ys))) := Ext.lay x2.s hn
      exact k _ _ _ ((x1.trans x2).trans xt) (.lst (SqL.of (hp_lay f ((E.ext x1).ext x2).base hn)) (dpa_app (dpa_mono (hp_mono f H0 (x2.r.trans xt.r)) _ _ hA) (dpa_mono (hp_mono f H0 xt.r) _ _ hB)))
/-- list(x), its items without an address -/
theorem de_listOfS {ds : List PyData} (h : DE H0 ρ te fa (aD K (.list ds))) (hf : ds.all scD = true) : DE H0 ρ (tCB (fun xs H Q => ∃ p ys, xs = [.ref p] ∧ (SqL K H p ys ∨ SqT K H p ys) ∧ ∀ l, H l = none → Q (.ref l) (upd H l (.lst ys))) (tCons te tNil)) f (aD K (.list ds)) := fun σ H Hr Q E k => h σ H Hr _ E fun v H1 Hr1 x1 a1 => by
  cases a1 with
  | @lst p xs _ hs hA =>
    refine ⟨p, xs, rfl, .inl (((hp_sub fa).trans x1.s).seq hs), fun r hn => ?_⟩
    have xt : Ext H1 Hr1 (upd H1 r (.lst xs)) (upd Hr1 r (.lst xs)) := Ext.lay x1.s hn
    exact k _ _ _ (x1.trans xt) (.lst (SqL.of (hp_lay f (E.ext x1).base hn)) (dpa_sc hf hA))
theorem dpa_bools {H : Hp} : ∀ {bs : List Bool} {xs : List V}, DpAll K H xs (bs.map PyData.bool) → xs = bs.map V.bl
  | [], _, .nil => rfl
  | b :: bs, _, .cons h t => by cases h; rw [dpa_bools t]; rfl
theorem dpa_strs {H : Hp} : ∀ {bs : List Str} {xs : List V}, DpAll K H xs (bs.map PyData.str) → xs = bs.map V.str
  | [], _, .nil => rfl
  | b :: bs, _, .cons h t => by cases h; rw [dpa_strs t]; rfl
theorem de_all {bs : List Bool} (h : DE H0 ρ te fa (aD K (.list (bs.map .bool)))) : DE H0 ρ (tCB (rAll K) (tCons te tNil)) f (aD K (.bool (bs.all id))) := fun σ H Hr Q E k => h σ H Hr _ E fun v H1 Hr1 x1 a1 => by
  cases a1 with
  | @lst p xs _ hs hA =>
    rw [dpa_bools hA] at hs
    exact ⟨p, bs, rfl, ((hp_sub fa).trans x1.s).seq hs, k _ H1 Hr1 x1 (.bl _)⟩
theorem de_join {z : Str} {ys : List Str} (ha : DE H0 ρ ta fa (aD K (.str z))) (hb : DE H0 ρ tb fb (aD K (.list (ys.map .str)))) (hl : (ys.map (·.length)).sum + ys.length * z.length ≤ 16777216) :
    DE H0 ρ (tM1 (fun x xs H Q => ∃ a p, ∃ ys : List Str, x = .str a ∧ xs = [.ref p] ∧ (SqL K H p (ys.map V.str) ∨ SqT K H p (ys.map V.str)) ∧ (ys.map (·.length)).sum + ys.length * a.length ≤ 16777216 ∧ Q (.str (Txt.join a ys)) H) ta tb) f (aD K (.str (Txt.join z ys))) := fun σ H Hr Q E k =>
  ha σ H Hr _ E fun x H1 Hr1 x1 a1 => by
    cases a1
    refine ⟨⟨z, rfl⟩, hb σ H1 Hr1 _ (E.ext x1) fun y H2 Hr2 x2 a2 => ?_⟩
    cases a2 with
    | @lst p xs _ hs hA =>
      rw [dpa_strs hA] at hs
      exact ⟨z, p, ys, rfl, rfl, .inl (((hp_sub fb).trans x2.s).seq hs), hl, k _ H2 Hr2 (x1.trans x2) (.str _)⟩
/-- a <= b <= c, of texts -/
theorem de_chS {i j m : Str} (ha : DE H0 ρ ta fa (aD K (.str i))) (hb : DE H0 ρ tb fb (aD K (.str j))) (hc : DE H0 ρ tc fc (aD K (.str m))) :
    DE H0 ρ (tChain (fun x y H Q => ∃ i j, x = .str i ∧ y = .str j ∧ Q (.bl (!decide (j.cps.toList < i.cps.toList))) H) (fun x y H Q => ∃ i j, x = .str i ∧ y = .str j ∧ Q (.bl (!decide (j.cps.toList < i.cps.toList))) H) ta tb tc) f
      (aD K (.bool (!decide (j.cps.toList < i.cps.toList) && !decide (m.cps.toList < j.cps.toList)))) := fun σ H Hr Q E k => by
  refine ha σ H Hr _ E fun x H1 Hr1 x1 q1 => hb σ H1 Hr1 _ (E.ext x1) fun y H2 Hr2 x2 q2 => ?_
  cases q1; cases q2
  refine ⟨i, j, rfl, rfl, _, rfl, ?_⟩
  cases hg : (!decide (j.cps.toList < i.cps.toList)) with
  | true =>
    rw [if_pos rfl]
    refine hc σ H2 Hr2 _ ((E.ext x1).ext x2) fun z H3 Hr3 x3 q3 => ?_
    cases q3
    exact ⟨j, m, rfl, rfl, k _ H3 Hr3 ((x1.trans x2).trans x3) (by rw [hg, Bool.true_and]; exact .bl _)⟩
  | false => rw [if_neg Bool.false_ne_true]; exact k _ H2 Hr2 (x1.trans x2) (by rw [hg, Bool.false_and]; exact .bl _)
end
/-! ### objects -/
inductive FAll : List (Str × Abs) → List (Str × V) → Hp → Prop
  | nil {H : Hp} : FAll [] [] H
  | cons {n : Str} {A : Abs} {v : V} {fas : List (Str × Abs)} {fs : List (Str × V)} {H : Hp} : A.p v H → FAll fas fs H → FAll ((n, A) :: fas) ((n, v) :: fs) H
theorem FAll.mono {H H' : Hp} (s : Same H H') : ∀ {fas : List (Str × Abs)} {fs : List (Str × V)}, FAll fas fs H → FAll fas fs H'
  | _, _, .nil => .nil
  | _, _, .cons (A := A) h t => .cons (A.mono _ _ _ s h) (FAll.mono s t)
theorem FAll.none {H : Hp} {x : Str} : ∀ {fas : List (Str × Abs)} {fs : List (Str × V)}, FAll fas fs H → fas.lookup x = none → fs.lookup x = none
  | _, _, .nil, _ => rfl
  | _, _, .cons (n := n) (fas := fas) (fs := fs) h t, e => by
    rw [List.lookup_cons] at e ⊢
    cases q : x == n with
    | true => rw [q] at e; cases e
    | false => rw [q] at e; exact FAll.none t e
def aIns (C : Addr) (fas : List (Str × Abs)) : Abs := ⟨fun v H => ∃ a dx fs, v = .ref a ∧ H a = some (.ins C dx fs) ∧ FAll fas fs H, fun v _ _ s ⟨a, dx, fs, e, h, q⟩ => ⟨a, dx, fs, e, s _ _ h, q.mono s⟩⟩
def oIns (x C dx : Addr) (fas : List (Str × Abs)) : AbsO := ⟨fun a o H => a = x ∧ ∃ fs, o = .ins C dx fs ∧ FAll fas fs H, fun _ _ _ _ s ⟨z, fs, e, q⟩ => ⟨z, fs, e, q.mono s⟩⟩
def rm (H : Hp) (x : Addr) : Hp := fun a => if a = x then none else H a
theorem rm_self {H : Hp} {x : Addr} : rm H x x = none := by unfold rm; rw [if_pos rfl]
theorem rm_some {H : Hp} {x a : Addr} {o : HO} (h : rm H x a = some o) : H a = some o ∧ a ≠ x := by
  unfold rm at h
  by_cases e : a = x
  · rw [if_pos e] at h; cases h
  · rw [if_neg e] at h; exact ⟨h, e⟩
theorem rm_ne {H : Hp} {x a : Addr} (h : a ≠ x) : rm H x a = H a := by unfold rm; rw [if_neg h]
/-- what __init__ promises: the fields -/
def spI (S : List Abs → List (Str × Abs) → Prop) (C : Addr) : Sp := fun vs H Q _ => ∃ x dx As fas rest, vs = .ref x :: rest ∧ H x = some (.ins C dx []) ∧ S As fas ∧ AllP As rest (rm H x) ∧
  ∀ H' fs, Same (rm H x) H' → H' x = some (.ins C dx fs) → FAll fas fs (mns H' H) → Q .non H'
section
variable {H0 : Hp} {ρ : List Slot} {K : PySem.W.Frag} {f fa fb fc : Bool} {ta tb tc te : TE} {N N1 : List Slot → Prop} {R : Abs} {t u w : TS} {C : Addr} {fas : List (Str × Abs)}
end
section
variable {P : Program} {w : World} {K : PySem.W.Frag} {mg : Str → Option Value} {base : Heap}
end
end Kj

set_option Elab.async false
set_option linter.all false
set_option maxRecDepth 100000
set_option maxHeartbeats 4000000
/-! Kj9: methods and makers under their names; global numbers. -/
namespace Kj
open PySem L2
section
variable {P : Program} {w : World} {K : PySem.W.Frag} {mg : Str → Option Value} {base : Heap}
def MethAt (P : Program) (w : World) (K : PySem.W.Frag) (mg : Str → Option Value) (base : Heap) (C : Addr) (m : Str) (k : Nat) (ps : List Str) (sp : Sp) : Prop :=
  ∃ f fd, Cls K C ∧ Meth K C m f ∧ Binds K fd ps [] ∧ FnOk P w K mg base CX0 k f fd ps sp
def MkAt (P : Program) (w : World) (K : PySem.W.Frag) (mg : Str → Option Value) (base : Heap) (x : Str) (C : Addr) (k : Nat) (ps : List Str) (sp : Sp) : Prop :=
  ∃ f fd, Mk K C f ∧ mg x = some (.ref C) ∧ Binds K fd ps [] ∧ FnOk P w K mg base CX0 k f fd ps sp
end
theorem pe_globI {X : Cx} {x : Str} {i : Int} {pos : Pos} (hg : Gl X x) (hm : ∃ t, X.mg x = some (.int i t)) (hd : (x == ("__debug__" : Str)) = false := by decide) : PE X (.Name x pos) (tC (.int i)) := by
  obtain ⟨t, h⟩ := hm
  exact pe_glob hg h ⟨t, rfl⟩ hd
/-! ### data of texts -/
def dS (v : List Str) : PyData := .list (v.map .str)
def dB (b : List (List Str)) : PyData := .list (b.map dS)
end Kj

set_option Elab.async false
set_option linter.all false
set_option maxRecDepth 100000
set_option maxHeartbeats 4000000
/-! KjBk: the mathematics of books. -/
namespace Kj
open PySem L2 TL
def Syl (z : Str) : Prop := 1 ≤ z.cps.size ∧ z.cps.size ≤ 3 ∧ ∀ c ∈ z.cps.toList, 97 ≤ c ∧ c ≤ 122
def Ver (v : List Str) : Prop := 1 ≤ v.length ∧ v.length ≤ 8 ∧ ∀ z ∈ v, Syl z
def alk (a b : List Str) : Bool := decide (a.take (min a.length b.length) = b.take (min a.length b.length))
def BookOk (m : Nat) (b : List (List Str)) : Prop := 1 ≤ b.length ∧ b.length ≤ m ∧ (∀ v ∈ b, Ver v) ∧ b.Pairwise (fun x y => alk x y = false)
theorem joinL_one : ∀ cs : List Nat, joinL [] (cs.map fun c => [c]) = cs
  | [] => rfl
  | [c] => rfl
  | c :: d :: r => by
    show [c] ++ ([] ++ joinL [] ((d :: r).map fun c => [c])) = _
    rw [joinL_one (d :: r)]
    rfl
theorem join_one (cs : List Nat) : (Txt.join (Str.ofString "") (cs.map fun c => (⟨#[c]⟩ : Str))).cps.toList = cs := by
  rw [join_eq]
  have h := tl_join (Str.ofString "") (cs.map fun c => (⟨#[c]⟩ : Str))
  have e : tl (Str.ofString "") = [] := by decide
  rw [e, List.map_map] at h
  have e2 : (tl ∘ fun c => (⟨#[c]⟩ : Str)) = fun c => [c] := rfl
  rw [e2, joinL_one] at h
  exact h
theorem syl_join {cs : List Nat} (h1 : 1 ≤ cs.length) (h2 : cs.length ≤ 3) (h3 : ∀ c ∈ cs, 97 ≤ c ∧ c ≤ 122) : Syl (Txt.join (Str.ofString "") (cs.map fun c => (⟨#[c]⟩ : Str))) := by
  have e := join_one cs
  refine ⟨?_, ?_, ?_⟩
  · rw [← Array.length_toList, e]; exact h1
  · rw [← Array.length_toList, e]; exact h2
  · rw [e]; exact h3
def sylB (z : Str) : Bool := decide (1 ≤ z.cps.size) && (decide (z.cps.size ≤ 3) && z.cps.toList.all fun c => decide (97 ≤ c) && decide (c ≤ 122))
theorem sylB_ok {z : Str} (h : sylB z = true) : Syl z := by
  unfold sylB at h
  rw [Bool.and_eq_true, Bool.and_eq_true, List.all_eq_true] at h
  refine ⟨of_decide_eq_true h.1, of_decide_eq_true h.2.1, fun c hc => ?_⟩
  have := h.2.2 c hc
  rw [Bool.and_eq_true] at this
  exact ⟨of_decide_eq_true this.1, of_decide_eq_true this.2⟩
theorem syls_ok {l : List Str} (h : l.all sylB = true) : ∀ z ∈ l, Syl z := fun z hz => sylB_ok (List.all_eq_true.mp h z hz)
theorem alk_comm (a b : List Str) : alk a b = alk b a := by
  unfold alk
  rw [Nat.min_comm]
  by_cases h : a.take (min b.length a.length) = b.take (min b.length a.length)
  · rw [decide_eq_true h, decide_eq_true h.symm]
  · rw [decide_eq_false h, decide_eq_false (fun z => h z.symm)]
end Kj

set_option Elab.async false
set_option linter.all false
set_option maxRecDepth 100000
set_option maxHeartbeats 4000000
/-! KjBk2: indices and slices of numbers, texts, verses. -/
namespace Kj
open PySem L2
def NN (m : Nat) (ms : List Int) : Prop := m ≤ ms.length ∧ ∀ x ∈ ms, 0 ≤ x
theorem NN.mono {m n : Nat} {ms : List Int} (h : NN m ms) (hn : n ≤ m) : NN n ms := ⟨Nat.le_trans hn h.1, h.2⟩
theorem NN.get {m : Nat} {ms : List Int} (h : NN m ms) (i : Nat) : 0 ≤ ms.getD i 0 := by
  rw [List.getD_eq_getElem?_getD]
  cases e : ms[i]? with
  | none => exact Int.le_refl _
  | some x => exact h.2 x (List.mem_of_getElem? e)
theorem NN.drop {m n : Nat} {ms : List Int} (h : NN m ms) (hn : n ≤ m) : NN (m - n) (ms.drop n) := ⟨by rw [List.length_drop]; have := h.1; omega, fun x hx => h.2 x (List.mem_of_mem_drop hx)⟩
theorem NN.take {m n : Nat} {ms : List Int} (h : NN m ms) (hn : n ≤ m) : NN n (ms.take n) := ⟨by rw [List.length_take]; have := h.1; omega, fun x hx => h.2 x (List.mem_of_mem_take hx)⟩
theorem cutD_mid {α : Type} (xs : List α) {a b : Int} (h : 0 ≤ a) (hb : a ≤ b) : cutD xs (some a) (some b) = (xs.drop a.toNat).take (b.toNat - a.toNat) := by
  unfold cutD
  rw [sIx_nn _ _ h, sIx_nn _ _ (by omega)]
  by_cases h2 : a.toNat ≤ xs.length
  · rw [Nat.min_eq_left h2]
    by_cases h3 : b.toNat ≤ xs.length
    · rw [Nat.min_eq_left h3]
    · rw [Nat.min_eq_right (by omega), List.take_of_length_le (by simp), List.take_of_length_le (by simp; omega)]
  · have e1 : xs.drop a.toNat = [] := List.drop_eq_nil_of_le (by omega)
    have e2 : xs.drop (min a.toNat xs.length) = [] := List.drop_eq_nil_of_le (by omega)
    rw [e1, e2]; simp
theorem getD_mem {α : Type} {xs : List α} {i : Nat} {z : α} (h : i < xs.length) : xs.getD i z ∈ xs := by
  rw [List.getD_eq_getElem?_getD, List.getElem?_eq_getElem h]
  exact List.getElem_mem h
theorem Ver.take {v : List Str} (h : Ver v) {n : Nat} (hn : 1 ≤ n) : Ver (v.take n) := ⟨by rw [List.length_take]; have := h.1; omega, by rw [List.length_take]; have := h.2.1; omega, fun z hz => h.2.2 z (List.mem_of_mem_take hz)⟩
section
variable {H0 : Hp} {ρ : List Slot} {K : PySem.W.Frag} {f fa fb fc : Bool} {ta tb tc te : TE}
end
end Kj

set_option Elab.async false
set_option linter.all false
set_option maxRecDepth 100000
set_option maxHeartbeats 4000000
/-! Kj10: typed values, and readings by Lean programs in Option. -/
namespace Kj
open PySem L2
/-! ### typed values -/
class Enc (α : Type) where
  enc : α → PyData
  plain : ∀ x, (enc x).plain = true
  dep : Nat
  depth : ∀ x, (enc x).depth ≤ dep
  eqv : ∀ x y, PyData.eqv (enc x) (enc y) = true ↔ x = y
abbrev en {α : Type} [Enc α] (x : α) : PyData := Enc.enc x
theorem dep_en {α : Type} [Enc α] (x : α) : (en x).depth ≤ Enc.dep α := Enc.depth x
instance : Enc Int := ⟨.int, fun _ => by simp [PyData.plain], 0, fun _ => by simp [PyData.depth], fun x y => by simp [PyData.eqv]⟩
instance : Enc Bool := ⟨.bool, fun _ => by simp [PyData.plain], 0, fun _ => by simp [PyData.depth], fun x y => by simp [PyData.eqv]⟩
instance : Enc Str := ⟨.str, fun _ => by simp [PyData.plain], 0, fun _ => by simp [PyData.depth], fun x y => by simp [PyData.eqv]⟩
instance : Enc Unit := ⟨fun _ => .none, fun _ => by simp [PyData.plain], 0, fun _ => by simp [PyData.depth], fun x y => by simp [PyData.eqv]⟩
theorem plain_map {α : Type} [Enc α] : ∀ xs : List α, PyData.plainAll (xs.map en) = true
  | [] => by simp [PyData.plainAll]
  | x :: xs => by simp [PyData.plainAll, Enc.plain, plain_map xs]
theorem depth_map {α : Type} [Enc α] : ∀ xs : List α, PyData.depthAll (xs.map en) ≤ Enc.dep α
  | [] => by simp [PyData.depthAll]
  | x :: xs => by
    have := depth_map xs
    have := dep_en x
    simp only [List.map_cons, PyData.depthAll]
    omega
theorem eqv_map {α : Type} [Enc α] : ∀ xs ys : List α, PyData.eqvAll (xs.map en) (ys.map en) = true ↔ xs = ys
  | [], [] => by simp [PyData.eqvAll]
  | [], _ :: _ => by simp [PyData.eqvAll]
  | _ :: _, [] => by simp [PyData.eqvAll]
  | x :: xs, y :: ys => by simp [PyData.eqvAll, Enc.eqv, eqv_map xs ys]
instance {α : Type} [Enc α] : Enc (List α) := ⟨fun xs => .list (xs.map en), fun xs => by simp only [PyData.plain]; exact plain_map xs, Enc.dep α + 1, fun xs => by have := depth_map xs; simp only [PyData.depth]; omega, fun xs ys => by simp only [PyData.eqv]; exact eqv_map xs ys⟩
structure P2 (α β : Type) where
  a : α
  b : β
  deriving DecidableEq
structure P3 (α β γ : Type) where
  a : α
  b : β
  c : γ
  deriving DecidableEq
structure P4 (α β γ δ : Type) where
  a : α
  b : β
  c : γ
  d : δ
  deriving DecidableEq
instance {α β : Type} [Enc α] [Enc β] : Enc (P2 α β) := ⟨fun p => .tuple [en p.a, en p.b], fun p => by simp [PyData.plain, PyData.plainAll, Enc.plain], max (Enc.dep α) (Enc.dep β) + 1, fun p => by
  have := dep_en p.a; have := dep_en p.b
  simp only [PyData.depth, PyData.depthAll]; omega, fun p q => by
  cases p; cases q; simp [PyData.eqv, PyData.eqvAll, Enc.eqv]⟩
instance {α β γ : Type} [Enc α] [Enc β] [Enc γ] : Enc (P3 α β γ) := ⟨fun p => .tuple [en p.a, en p.b, en p.c], fun p => by simp [PyData.plain, PyData.plainAll, Enc.plain], max (max (Enc.dep α) (Enc.dep β)) (Enc.dep γ) + 1, fun p => by
  have := dep_en p.a; have := dep_en p.b; have := dep_en p.c
  simp only [PyData.depth, PyData.depthAll]; omega, fun p q => by
  cases p; cases q; simp [PyData.eqv, PyData.eqvAll, Enc.eqv]⟩
instance {α β γ δ : Type} [Enc α] [Enc β] [Enc γ] [Enc δ] : Enc (P4 α β γ δ) := ⟨fun p => .tuple [en p.a, en p.b, en p.c, en p.d], fun p => by simp [PyData.plain, PyData.plainAll, Enc.plain], max (max (Enc.dep α) (Enc.dep β)) (max (Enc.dep γ) (Enc.dep δ)) + 1, fun p => by
  have := dep_en p.a; have := dep_en p.b; have := dep_en p.c; have := dep_en p.d
  simp only [PyData.depth, PyData.depthAll]; omega, fun p q => by
  cases p; cases q; simp [PyData.eqv, PyData.eqvAll, Enc.eqv]⟩
def isNn : PyData → Bool | .none => true | _ => false
/-- never None -/
class EncN (α : Type) [Enc α] : Prop where
  nn : ∀ x : α, PyData.eqv .none (en x) = false ∧ PyData.eqv (en x) .none = false ∧ isNn (en x) = false
instance : EncN Int := ⟨fun x => ⟨rfl, rfl, rfl⟩⟩
instance : EncN Bool := ⟨fun x => ⟨rfl, rfl, rfl⟩⟩
instance : EncN Str := ⟨fun x => ⟨rfl, rfl, rfl⟩⟩
instance {α : Type} [Enc α] : EncN (List α) := ⟨fun x => ⟨by show PyData.eqv .none (.list _) = false; simp [PyData.eqv], by show PyData.eqv (.list _) .none = false; simp [PyData.eqv], rfl⟩⟩
instance {α β : Type} [Enc α] [Enc β] : EncN (P2 α β) := ⟨fun x => ⟨by show PyData.eqv .none (.tuple _) = false; simp [PyData.eqv], by show PyData.eqv (.tuple _) .none = false; simp [PyData.eqv], rfl⟩⟩
instance {α β γ : Type} [Enc α] [Enc β] [Enc γ] : EncN (P3 α β γ) := ⟨fun x => ⟨by show PyData.eqv .none (.tuple _) = false; simp [PyData.eqv], by show PyData.eqv (.tuple _) .none = false; simp [PyData.eqv], rfl⟩⟩
instance {α β γ δ : Type} [Enc α] [Enc β] [Enc γ] [Enc δ] : EncN (P4 α β γ δ) := ⟨fun x => ⟨by show PyData.eqv .none (.tuple _) = false; simp [PyData.eqv], by show PyData.eqv (.tuple _) .none = false; simp [PyData.eqv], rfl⟩⟩
def encO {α : Type} [Enc α] : Option α → PyData
  | none => .none
  | some x => en x
instance {α : Type} [Enc α] [EncN α] : Enc (Option α) := ⟨encO, fun x => by cases x; simp [encO, PyData.plain]; exact Enc.plain _, Enc.dep α, fun x => by
  cases x with
  | none => simp [encO, PyData.depth]
  | some x => exact Enc.depth x, fun x y => by
  cases x with
  | none => cases y with
    | none => simp [encO, PyData.eqv]
    | some y => simp [encO, (EncN.nn y).1]
  | some x => cases y with
    | none => simp [encO, (EncN.nn x).2.1]
    | some y => simp [encO, Enc.eqv]⟩
/-- without an address -/
class Flt (α : Type) [Enc α] : Prop where
  fl : ∀ x : α, scD (en x) = true
instance : Flt Int := ⟨fun _ => rfl⟩
instance : Flt Bool := ⟨fun _ => rfl⟩
instance : Flt Str := ⟨fun _ => rfl⟩
instance : Flt Unit := ⟨fun _ => rfl⟩
instance {α : Type} [Enc α] [EncN α] [Flt α] : Flt (Option α) := ⟨fun x => by
  cases x with
  | none => rfl
  | some x => exact Flt.fl x⟩
theorem all_flt {α : Type} [Enc α] [Flt α] : ∀ xs : List α, (xs.map en).all scD = true
  | [] => rfl
  | x :: xs => by simp [List.map_cons, List.all_cons, Flt.fl, all_flt xs]
abbrev aE {α : Type} [Enc α] (K : PySem.W.Frag) (x : α) : Abs := aD K (en x)
abbrev oE {α : Type} [Enc α] (K : PySem.W.Frag) (x : List α) : AbsO := oL K (x.map en)
theorem decide_eqv {α : Type} [Enc α] [DecidableEq α] (x y : α) : PyData.eqv (en x) (en y) = decide (x = y) := by
  cases h : PyData.eqv (en x) (en y) with
  | true => exact (decide_eq_true ((Enc.eqv x y).mp h)).symm
  | false => exact (decide_eq_false fun e => by rw [(Enc.eqv x y).mpr e] at h; cases h).symm
/-! ### data ==, of any texts -/
section
open PySem.SeqAt
variable {X : Cx}
def rEqP (K : PySem.W.Frag) : R2 := fun x y H Q => ∃ d e, Dp K H x d ∧ Dp K H y e ∧ d.plain = true ∧ e.plain = true ∧ d.depth ≤ 64 ∧ Q (.bl (PyData.eqv d e)) H
def rNeP (K : PySem.W.Frag) : R2 := fun x y H Q => ∃ d e, Dp K H x d ∧ Dp K H y e ∧ d.plain = true ∧ e.plain = true ∧ d.depth ≤ 64 ∧ Q (.bl (!PyData.eqv d e)) H
theorem op_eqP (hu : X.A.units + 64 < cLine) : OpR X (compareOp .Eq) (rEqP X.K) := by
  intro pins s σ H x y v u Q I rx ry h
  obtain ⟨d, e, hd, he, sd, se, hl, q⟩ := h
  obtain ⟨as, r1⟩ := Dp.reads I d x v hd rx
  obtain ⟨bs, r2⟩ := Dp.reads I e y u he ry
  exact eq_plain r1 r2 sd se (by omega) ⟨.bl _, H, I, rfl, q⟩
theorem op_neP (hu : X.A.units + 64 < cLine) : OpR X (compareOp .NotEq) (rNeP X.K) := by
  intro pins s σ H x y v u Q I rx ry h
  obtain ⟨d, e, hd, he, sd, se, hl, q⟩ := h
  obtain ⟨as, r1⟩ := Dp.reads I d x v hd rx
  obtain ⟨bs, r2⟩ := Dp.reads I e y u he ry
  exact ne_plain r1 r2 sd se (by omega) ⟨.bl _, H, I, rfl, q⟩
def rInP (K : PySem.W.Frag) : R2 := fun x y H Q => ∃ d ds, Dp K H x d ∧ Dp K H y (.list ds) ∧ d.plain = true ∧ PyData.plainAll ds = true ∧ d.depth ≤ 60 ∧ Q (.bl (ds.any fun z => PyData.eqv z d)) H
def rNotInP (K : PySem.W.Frag) : R2 := fun x y H Q => ∃ d ds, Dp K H x d ∧ Dp K H y (.list ds) ∧ d.plain = true ∧ PyData.plainAll ds = true ∧ d.depth ≤ 60 ∧ Q (.bl (!ds.any fun z => PyData.eqv z d)) H
end
/-! ### readings of expressions by programs -/
def DM (H0 : Hp) (ρ : List Slot) (t : TE) (f : Bool) {α : Type} (A : α → Abs) (m : Option α) : Prop := ∀ x, m = some x → DE H0 ρ t f (A x)
def DTm (K : PySem.W.Frag) (H0 : Hp) (ρ : List Slot) (t : TT) (m : Option Bool) : Prop := ∀ b, m = some b → DT K H0 ρ t b
def DOm (K : PySem.W.Frag) (H0 : Hp) (ρ : List Slot) (t : TO) (m : Option (Option Int)) : Prop := ∀ o, m = some o → DO K H0 ρ t o
def b1 {α γ : Type} (g : α → Option γ) (ma : Option α) : Option γ := ma.bind g
def b2 {α β γ : Type} (g : α → β → Option γ) (ma : Option α) (mb : Option β) : Option γ := ma.bind fun a => mb.bind fun b => g a b
def b3 {α β γ δ : Type} (g : α → β → γ → Option δ) (ma : Option α) (mb : Option β) (mc : Option γ) : Option δ := ma.bind fun a => mb.bind fun b => mc.bind fun c => g a b c
def b4 {α β γ δ ε : Type} (g : α → β → γ → δ → Option ε) (ma : Option α) (mb : Option β) (mc : Option γ) (md : Option δ) : Option ε := ma.bind fun a => mb.bind fun b => mc.bind fun c => md.bind fun d => g a b c d
def b5 {α β γ δ ε ζ : Type} (g : α → β → γ → δ → ε → Option ζ) (ma : Option α) (mb : Option β) (mc : Option γ) (md : Option δ) (me : Option ε) : Option ζ := ma.bind fun a => mb.bind fun b => mc.bind fun c => md.bind fun d => me.bind fun e => g a b c d e
theorem b1_some {α γ : Type} {g : α → Option γ} {ma : Option α} {z : γ} (h : b1 g ma = some z) : ∃ a, ma = some a ∧ g a = some z := Option.bind_eq_some_iff.mp h
theorem b2_some {α β γ : Type} {g : α → β → Option γ} {ma : Option α} {mb : Option β} {z : γ} (h : b2 g ma mb = some z) : ∃ a b, ma = some a ∧ mb = some b ∧ g a b = some z := by
  obtain ⟨a, h1, h⟩ := Option.bind_eq_some_iff.mp h
  obtain ⟨b, h2, h⟩ := Option.bind_eq_some_iff.mp h
  exact ⟨a, b, h1, h2, h⟩
theorem b3_some {α β γ δ : Type} {g : α → β → γ → Option δ} {ma : Option α} {mb : Option β} {mc : Option γ} {z : δ} (h : b3 g ma mb mc = some z) : ∃ a b c, ma = some a ∧ mb = some b ∧ mc = some c ∧ g a b c = some z := by
  obtain ⟨a, h1, h⟩ := Option.bind_eq_some_iff.mp h
  obtain ⟨b, c, h2, h3, h⟩ := b2_some (g := g a) h
  exact ⟨a, b, c, h1, h2, h3, h⟩
section
variable {α β γ δ : Type} {a : α} {b : β} {c : γ} {d : δ}
@[simp] theorem b1_ss {g : α → Option γ} : b1 g (some a) = g a := rfl
@[simp] theorem b2_ss {g : α → β → Option γ} : b2 g (some a) (some b) = g a b := rfl
@[simp] theorem b3_ss {g : α → β → γ → Option δ} : b3 g (some a) (some b) (some c) = g a b c := rfl
@[simp] theorem b4_ss {ε : Type} {g : α → β → γ → δ → Option ε} : b4 g (some a) (some b) (some c) (some d) = g a b c d := rfl
@[simp] theorem b5_ss {ε ζ : Type} {e : ε} {g : α → β → γ → δ → ε → Option ζ} : b5 g (some a) (some b) (some c) (some d) (some e) = g a b c d e := rfl
end
instance {i j : Int} : Decidable (CMul i j) := by unfold CMul; infer_instance
instance {i j : Int} : Decidable (CPow i j) := by unfold CPow; infer_instance
instance {i j : Int} : Decidable (CDiv i j) := by unfold CDiv; infer_instance
def addI (i j : Int) : Option Int := some (i + j)
def subI (i j : Int) : Option Int := some (i - j)
def mulI (i j : Int) : Option Int := if CMul i j then some (i * j) else none
def divI (i j : Int) : Option Int := if CDiv i j then some (i / j) else none
def modI (i j : Int) : Option Int := if 0 < j then some (i % j) else none
@[irreducible] def powI (i j : Int) : Option Int := if CPow i j then some (i ^ j.toNat) else none
def negI (i : Int) : Option Int := some (-i)
def minI (i j : Int) : Option Int := some (if j < i then j else i)
def maxI (i j : Int) : Option Int := some (if j > i then j else i)
def ltI (i j : Int) : Option Bool := some (decide (i < j))
def leI (i j : Int) : Option Bool := some (decide (i ≤ j))
def gtI (i j : Int) : Option Bool := some (decide (j < i))
def geI (i j : Int) : Option Bool := some (decide (j ≤ i))
def eqM {α : Type} [DecidableEq α] (x y : α) : Option Bool := some (decide (x = y))
def neM {α : Type} [DecidableEq α] (x y : α) : Option Bool := some (!decide (x = y))
def inM {α : Type} [DecidableEq α] (x : α) (xs : List α) : Option Bool := some (decide (x ∈ xs))
def notInM {α : Type} [DecidableEq α] (x : α) (xs : List α) : Option Bool := some (!decide (x ∈ xs))
def andM (ma mb : Option Bool) : Option Bool := ma.bind fun a => if a = true then mb else some false
def orM (ma mb : Option Bool) : Option Bool := ma.bind fun a => if a = true then some true else mb
def notM (ma : Option Bool) : Option Bool := ma.bind fun a => some (!a)
def iteM {α : Type} (mc : Option Bool) (ma mb : Option α) : Option α := mc.bind fun c => if c = true then ma else mb
/-- a <= b < c: c is asked only where the first holds -/
def chM {α : Type} (g g' : α → α → Option Bool) (ma mb mc : Option α) : Option Bool := ma.bind fun a => mb.bind fun b => (g a b).bind fun k => if k = true then mc.bind fun c => g' b c else some false
def lenL {α : Type} (xs : List α) : Option Int := some xs.length
def lenS (z : Str) : Option Int := if z.length ≤ sizeLine then some z.length else none
def cutM {α : Type} (xs : List α) (lo hi : Option Int) : Option (List α) := some (cutD xs lo hi)
def catM {α : Type} (xs ys : List α) : Option (List α) := if xs.length + ys.length ≤ 100000 then some (xs ++ ys) else none
def listM {α : Type} (xs : List α) : Option (List α) := some xs
def allM (bs : List Bool) : Option Bool := some (bs.all id)
def joinM (z : Str) (ys : List Str) : Option Str := if (ys.map (·.length)).sum + ys.length * z.length ≤ 16777216 then some (Txt.join z ys) else none
def ixS (z : Str) (i : Int) : Option Str := if z.length ≤ sizeLine then (atI z.cps.toList i).map fun c => ⟨#[c]⟩ else none
def leS (i j : Str) : Option Bool := some (!decide (j.cps.toList < i.cps.toList))
def noneM : Option (Option Int) := some none
def someM (m : Option Int) : Option (Option Int) := m.map some
section
variable {H0 : Hp} {ρ : List Slot} {K : PySem.W.Frag} {f fa fb fc g : Bool} {ta tb tc te : TE} {α β γ δ : Type}
theorem dm_mk {A : α → Abs} {x : α} (h : DE H0 ρ te f (A x)) : DM H0 ρ te f A (some x) := fun y e => by cases e; exact h
theorem dm_var {A : α → Abs} {x : α} {i : Nat} (h : ρ[i]? = some (sl f (A x))) : DM H0 ρ (tVar i) f A (some x) := dm_mk (de_vs h)
theorem dm_up [Enc α] [Flt α] {m : Option α} (h : DM H0 ρ te f (aE K) m) : DM H0 ρ te g (aE K) m := fun x e => de_up (h x e) (Flt.fl x)
theorem dm_int {i : Int} : DM H0 ρ (tC (.int i)) true (aE K) (some i) := dm_mk de_int
theorem dm_str {i : Str} : DM H0 ρ (tC (.str i)) true (aE K) (some i) := dm_mk de_str
theorem dm_bl {i : Bool} : DM H0 ρ (tC (.bl i)) true (aE K) (some i) := dm_mk de_bl
variable {mi mj mk : Option Int}
theorem dm_add (ha : DM H0 ρ ta fa (aE K) mi) (hb : DM H0 ρ tb fb (aE K) mj) : DM H0 ρ (tOp (rI0 fun i j => .int (i + j)) ta tb) true (aE K) (b2 addI mi mj) := fun x e => by
  obtain ⟨i, j, h1, h2, h⟩ := b2_some e; cases h; exact de_add (ha i h1) (hb j h2)
theorem dm_sub (ha : DM H0 ρ ta fa (aE K) mi) (hb : DM H0 ρ tb fb (aE K) mj) : DM H0 ρ (tOp (rI0 fun i j => .int (i - j)) ta tb) true (aE K) (b2 subI mi mj) := fun x e => by
  obtain ⟨i, j, h1, h2, h⟩ := b2_some e; cases h; exact de_sub (ha i h1) (hb j h2)
theorem dm_mul (ha : DM H0 ρ ta fa (aE K) mi) (hb : DM H0 ρ tb fb (aE K) mj) : DM H0 ρ (tOp (rI CMul fun i j => .int (i * j)) ta tb) true (aE K) (b2 mulI mi mj) := fun x e => by
  obtain ⟨i, j, h1, h2, h⟩ := b2_some e
  unfold mulI at h
  split at h
  · cases h; exact de_mul (ha i h1) (hb j h2) (by assumption)
  · cases h
theorem dm_div (ha : DM H0 ρ ta fa (aE K) mi) (hb : DM H0 ρ tb fb (aE K) mj) : DM H0 ρ (tOp (rI CDiv fun i j => .int (i / j)) ta tb) true (aE K) (b2 divI mi mj) := fun x e => by
  obtain ⟨i, j, h1, h2, h⟩ := b2_some e
  unfold divI at h
  split at h
  · cases h; exact de_fdiv (ha i h1) (hb j h2) (by assumption)
  · cases h
theorem dm_mod (ha : DM H0 ρ ta fa (aE K) mi) (hb : DM H0 ρ tb fb (aE K) mj) : DM H0 ρ (tOp (rI (fun _ j => 0 < j) fun i j => .int (i % j)) ta tb) true (aE K) (b2 modI mi mj) := fun x e => by
  obtain ⟨i, j, h1, h2, h⟩ := b2_some e
  unfold modI at h
  split at h
  · cases h; exact de_mod (ha i h1) (hb j h2) (by assumption)
  · cases h
theorem dm_pow (ha : DM H0 ρ ta fa (aE K) mi) (hb : DM H0 ρ tb fb (aE K) mj) : DM H0 ρ (tOp (rI CPow fun i j => .int (i ^ j.toNat)) ta tb) true (aE K) (b2 powI mi mj) := fun x e => by
  obtain ⟨i, j, h1, h2, h⟩ := b2_some e
  unfold powI at h
  split at h
  · cases h; exact de_pow (ha i h1) (hb j h2) (by assumption)
  · cases h
theorem dm_min (ha : DM H0 ρ ta fa (aE K) mi) (hb : DM H0 ρ tb fb (aE K) mj) : DM H0 ρ (tCB (fun xs H Q => ∃ i j, xs = [.int i, .int j] ∧ Q (.int (if j < i then j else i)) H) (tCons ta (tCons tb tNil))) true (aE K) (b2 minI mi mj) := fun x e => by
  obtain ⟨i, j, h1, h2, h⟩ := b2_some e; cases h; exact de_min (ha i h1) (hb j h2)
theorem dm_max (ha : DM H0 ρ ta fa (aE K) mi) (hb : DM H0 ρ tb fb (aE K) mj) : DM H0 ρ (tCB (fun xs H Q => ∃ i j, xs = [.int i, .int j] ∧ Q (.int (if j > i then j else i)) H) (tCons ta (tCons tb tNil))) true (aE K) (b2 maxI mi mj) := fun x e => by
  obtain ⟨i, j, h1, h2, h⟩ := b2_some e; cases h; exact de_max (ha i h1) (hb j h2)
theorem dm_cmp {g : Int → Int → Bool} {G : Int → Int → Option Bool} (ha : DM H0 ρ ta fa (aE K) mi) (hb : DM H0 ρ tb fb (aE K) mj) (hg : ∀ i j, G i j = some (g i j)) : DM H0 ρ (tOp (rI0 fun i j => .bl (g i j)) ta tb) true (aE K) (b2 G mi mj) := fun x e => by
  obtain ⟨i, j, h1, h2, h⟩ := b2_some e
  rw [hg] at h
  cases h; exact de_cmp (ha i h1) (hb j h2)
theorem dm_eqI (ha : DM H0 ρ ta fa (aE K) mi) (hb : DM H0 ρ tb fb (aE K) mj) : DM H0 ρ (tOp rEq ta tb) true (aE K) (b2 eqM mi mj) := fun x e => by
  obtain ⟨i, j, h1, h2, h⟩ := b2_some e; cases h; exact de_eqI (ha i h1) (hb j h2)
theorem dm_eqP [Enc α] [DecidableEq α] {mi mj : Option α} (ha : DM H0 ρ ta fa (aE K) mi) (hb : DM H0 ρ tb fb (aE K) mj) (hd : Enc.dep α ≤ 64) : DM H0 ρ (tOp (rEqP K) ta tb) true (aE K) (b2 eqM mi mj) := fun x e => by
  obtain ⟨i, j, h1, h2, h⟩ := b2_some e; cases h
  refine de_op (ha i h1) (hb j h2) fun x y Hr H Q s p q k => ⟨_, _, dp_mono s _ _ p, dp_mono s _ _ q, Enc.plain _, Enc.plain _, Nat.le_trans (Enc.depth _) hd, k _ fun _ => ?_⟩
  rw [decide_eqv]; exact .bl _
theorem dm_neP [Enc α] [DecidableEq α] {mi mj : Option α} (ha : DM H0 ρ ta fa (aE K) mi) (hb : DM H0 ρ tb fb (aE K) mj) (hd : Enc.dep α ≤ 64) : DM H0 ρ (tOp (rNeP K) ta tb) true (aE K) (b2 neM mi mj) := fun x e => by
  obtain ⟨i, j, h1, h2, h⟩ := b2_some e; cases h
  refine de_op (ha i h1) (hb j h2) fun x y Hr H Q s p q k => ⟨_, _, dp_mono s _ _ p, dp_mono s _ _ q, Enc.plain _, Enc.plain _, Nat.le_trans (Enc.depth _) hd, k _ fun _ => ?_⟩
  rw [decide_eqv]; exact .bl _
variable {ma mb mc : Option Bool}
theorem dm_and (ha : DM H0 ρ ta fa (aE K) ma) (hb : DM H0 ρ tb fb (aE K) mb) : DM H0 ρ (tAndV ta tb) true (aE K) (andM ma mb) := fun x e => by
  obtain ⟨a, h1, h⟩ := Option.bind_eq_some_iff.mp e
  cases a with
  | true => exact de_eq (de_and (a := true) (b := x) (ha _ h1) (fun _ => hb x h)) rfl
  | false => cases h; exact de_eq (de_and (a := false) (b := true) (fb := true) (tb := tb) (ha _ h1) (fun z => nomatch z)) rfl
theorem dm_not (ha : DM H0 ρ ta fa (aE K) ma) : DM H0 ρ (tNotV ta) true (aE K) (notM ma) := fun x e => by
  obtain ⟨a, h1, h⟩ := Option.bind_eq_some_iff.mp e
  cases h; exact de_not (ha _ h1)
theorem de_isN2 {d : PyData} (h : DE H0 ρ ta fa (aD K d)) : DE H0 ρ (tIsN ta) true (aD K (.bool (isNn d))) := fun σ H Hr Q E k => h σ H Hr _ E fun v H' Hr' x q => k _ H' Hr' x (by cases q <;> exact .bl _)
theorem dm_chI {g g' : Int → Int → Bool} {G G' : Int → Int → Option Bool} (ha : DM H0 ρ ta fa (aE K) mi) (hb : DM H0 ρ tb fb (aE K) mj) (hc : DM H0 ρ tc fc (aE K) mk) (hg : ∀ i j, G i j = some (g i j)) (hg' : ∀ i j, G' i j = some (g' i j)) :
    DM H0 ρ (tChain (rI0 fun i j => .bl (g i j)) (rI0 fun i j => .bl (g' i j)) ta tb tc) true (aE K) (chM G G' mi mj mk) := fun x e => by
  obtain ⟨i, h1, e⟩ := Option.bind_eq_some_iff.mp e
  obtain ⟨j, h2, e⟩ := Option.bind_eq_some_iff.mp e
  rw [hg, Option.bind_some] at e
  cases hb1 : g i j with
  | false =>
    rw [hb1] at e
    cases e
    intro σ H Hr Q E k
    refine ha i h1 σ H Hr _ E fun x H1 Hr1 x1 q1 => hb j h2 σ H1 Hr1 _ (E.ext x1) fun y H2 Hr2 x2 q2 => ?_
    cases q1; cases q2
    refine ⟨i, j, rfl, rfl, g i j, rfl, ?_⟩
    rw [hb1, if_neg Bool.false_ne_true]
    exact k _ H2 Hr2 (x1.trans x2) (.bl _)
  | true =>
    rw [hb1, if_pos rfl] at e
    obtain ⟨m, h3, e⟩ := Option.bind_eq_some_iff.mp e
    rw [hg'] at e
    cases e
    exact de_eq (de_chI (ha i h1) (hb j h2) (hc m h3)) (by rw [hb1, Bool.true_and]; rfl)
theorem dm_chS {mi mj mk : Option Str} (ha : DM H0 ρ ta fa (aE K) mi) (hb : DM H0 ρ tb fb (aE K) mj) (hc : DM H0 ρ tc fc (aE K) mk) :
    DM H0 ρ (tChain (fun x y H Q => ∃ i j, x = .str i ∧ y = .str j ∧ Q (.bl (!decide (j.cps.toList < i.cps.toList))) H) (fun x y H Q => ∃ i j, x = .str i ∧ y = .str j ∧ Q (.bl (!decide (j.cps.toList < i.cps.toList))) H) ta tb tc) true (aE K) (chM leS leS mi mj mk) := fun x e => by
  obtain ⟨i, h1, e⟩ := Option.bind_eq_some_iff.mp e
  obtain ⟨j, h2, e⟩ := Option.bind_eq_some_iff.mp e
  unfold leS at e
  rw [Option.bind_some] at e
  cases hb1 : (!decide (j.cps.toList < i.cps.toList)) with
  | false =>
    rw [hb1] at e
    cases e
    intro σ H Hr Q E k
    refine ha i h1 σ H Hr _ E fun x H1 Hr1 x1 q1 => hb j h2 σ H1 Hr1 _ (E.ext x1) fun y H2 Hr2 x2 q2 => ?_
    cases q1; cases q2
    refine ⟨i, j, rfl, rfl, _, rfl, ?_⟩
    rw [hb1, if_neg Bool.false_ne_true]
    exact k _ H2 Hr2 (x1.trans x2) (.bl _)
  | true =>
    rw [hb1, if_pos rfl] at e
    obtain ⟨m, h3, e⟩ := Option.bind_eq_some_iff.mp e
    cases e
    exact de_eq (de_chS (ha i h1) (hb j h2) (hc m h3)) (by rw [hb1, Bool.true_and]; rfl)
/-! tests -/
theorem dtm_test {m : Option Bool} (h : DM H0 ρ te fa (aE K) m) : DTm K H0 ρ (tTest te) m := fun b e => dt_test (h b e)
theorem dtm_B {m : Option Bool} (h : DM H0 ρ te fa (aE K) m) : DTm K H0 ρ (tB te) m := fun b e => dt_B (h b e)
theorem dtm_and {t u : TT} (h : DTm K H0 ρ t ma) (h2 : DTm K H0 ρ u mb) : DTm K H0 ρ (tAnd t u) (andM ma mb) := fun x e => by
  obtain ⟨a, h1, h'⟩ := Option.bind_eq_some_iff.mp e
  cases a with
  | true => exact dt_eq (dt_and (b := x) (h _ h1) fun _ => h2 x h') (by simp)
  | false => cases h'; exact dt_eq (dt_and (b := true) (u := u) (h _ h1) fun z => nomatch z) rfl
theorem dtm_or {t u : TT} (h : DTm K H0 ρ t ma) (h2 : DTm K H0 ρ u mb) : DTm K H0 ρ (tOr t u) (orM ma mb) := fun x e => by
  obtain ⟨a, h1, h'⟩ := Option.bind_eq_some_iff.mp e
  cases a with
  | true => cases h'; exact dt_eq (dt_or (b := true) (u := u) (h _ h1) fun z => nomatch z) rfl
  | false => exact dt_eq (dt_or (b := x) (h _ h1) fun _ => h2 x h') (by simp)
theorem dtm_not {t : TT} (h : DTm K H0 ρ t ma) : DTm K H0 ρ (tNot t) (notM ma) := fun x e => by
  obtain ⟨a, h1, h'⟩ := Option.bind_eq_some_iff.mp e
  cases h'; exact dt_not (h _ h1)
theorem dtm_yes : DTm K H0 ρ tYes (some true) := fun b e => by cases e; exact dt_yes
/-! items, slices, lists -/
theorem dm_ix [Enc α] {m : Option (List α)} (ha : DM H0 ρ ta f (aE K) m) (hb : DM H0 ρ tb fb (aE K) mj) : DM H0 ρ (tOp (rIxL K) ta tb) f (aE K) (b2 atI m mj) := fun x e => by
  obtain ⟨xs, j, h1, h2, h⟩ := b2_some e
  refine de_ixL (ha xs h1) (hb j h2) ?_
  unfold atI at h ⊢
  rw [List.length_map]
  cases q : ixN xs.length j with
  | none => rw [q] at h; cases h
  | some i =>
    rw [q] at h
    have h' : xs[i]? = some x := h
    show (xs.map en)[i]? = some (en x)
    rw [List.getElem?_map, h']; rfl
theorem dm_ixF [Enc α] [Flt α] {m : Option (List α)} (ha : DM H0 ρ ta fa (aE K) m) (hb : DM H0 ρ tb fb (aE K) mj) : DM H0 ρ (tOp (rIxL K) ta tb) true (aE K) (b2 atI m mj) := dm_up (dm_ix ha hb)
theorem dm_ixS {m : Option Str} (ha : DM H0 ρ ta fa (aE K) m) (hb : DM H0 ρ tb fb (aE K) mj) : DM H0 ρ (tOp rIxS ta tb) true (aE K) (b2 ixS m mj) := fun x e => by
  obtain ⟨z, j, h1, h2, h⟩ := b2_some e
  unfold ixS at h
  split at h
  · obtain ⟨c, h3, rfl⟩ := Option.map_eq_some_iff.mp h
    exact de_ixS (ha z h1) (hb j h2) (by assumption) h3
  · cases h
theorem dom_no : DOm K H0 ρ tNoPart noneM := fun o e => by cases e; exact do_no
theorem dom_so (h : DM H0 ρ te fa (aE K) mi) : DOm K H0 ρ (tPart te) (someM mi) := fun o e => by
  obtain ⟨i, h1, rfl⟩ := Option.map_eq_some_iff.mp e
  exact do_so (h i h1)
theorem dm_sl [Enc α] {m : Option (List α)} {tl th : TO} {ml mh : Option (Option Int)} (h : DM H0 ρ te f (aE K) m) (hl : DOm K H0 ρ tl ml) (hh : DOm K H0 ρ th mh) : DM H0 ρ (tSl (rSlL K) te tl th) f (aE K) (b3 cutM m ml mh) := fun x e => by
  obtain ⟨xs, lo, hi, h1, h2, h3, h⟩ := b3_some e
  cases h
  exact de_eq (de_sl (h _ h1) (hl _ h2) (hh _ h3)) (by rw [cutD_map]; rfl)
theorem dm_slF [Enc α] [Flt α] {m : Option (List α)} {tl th : TO} {ml mh : Option (Option Int)} (h : DM H0 ρ te fa (aE K) m) (hl : DOm K H0 ρ tl ml) (hh : DOm K H0 ρ th mh) : DM H0 ρ (tSl (rSlL K) te tl th) true (aE K) (b3 cutM m ml mh) := fun x e => by
  obtain ⟨xs, lo, hi, h1, h2, h3, h⟩ := b3_some e
  cases h
  exact de_eq (de_slf (h _ h1) (hl _ h2) (hh _ h3) (all_flt xs)) (by rw [cutD_map]; rfl)
theorem dm_len [Enc α] {m : Option (List α)} (h : DM H0 ρ te fa (aE K) m) : DM H0 ρ (tCB (fun xs H Q => ∃ x n, xs = [x] ∧ LenV K x H n ∧ Q (.int n) H) (tCons te tNil)) true (aE K) (b1 lenL m) := fun x e => by
  obtain ⟨xs, h1, h2⟩ := b1_some e
  cases h2
  exact de_eq (de_lenL (h _ h1)) (by rw [List.length_map]; rfl)
theorem dm_lenS {m : Option Str} (h : DM H0 ρ te fa (aE K) m) : DM H0 ρ (tCB (fun xs H Q => ∃ x n, xs = [x] ∧ LenV K x H n ∧ Q (.int n) H) (tCons te tNil)) true (aE K) (b1 lenS m) := fun x e => by
  obtain ⟨xs, h1, h2⟩ := b1_some e
  unfold lenS at h2
  split at h2
  · cases h2
    exact de_len (h _ h1) ⟨by assumption, rfl⟩
  · cases h2
theorem dm_cat [Enc α] {m m' : Option (List α)} (ha : DM H0 ρ ta f (aE K) m) (hb : DM H0 ρ tb f (aE K) m') : DM H0 ρ (tOp (rCatS K) ta tb) f (aE K) (b2 catM m m') := fun x e => by
  obtain ⟨xs, ys, h1, h2, h⟩ := b2_some e
  unfold catM at h
  split at h
  · cases h
    exact de_eq (de_cat (ha _ h1) (hb _ h2) (by simpa using by assumption)) (by rw [← List.map_append]; rfl)
  · cases h
theorem dm_listF [Enc α] [Flt α] {m : Option (List α)} (h : DM H0 ρ te fa (aE K) m) : DM H0 ρ (tCB (fun xs H Q => ∃ p ys, xs = [.ref p] ∧ (SqL K H p ys ∨ SqT K H p ys) ∧ ∀ l, H l = none → Q (.ref l) (upd H l (.lst ys))) (tCons te tNil)) true (aE K) (b1 listM m) := fun x e => by
  obtain ⟨xs, h1, h2⟩ := b1_some e
  cases h2
  exact de_listOfS (h _ h1) (all_flt _)
theorem dm_all {m : Option (List Bool)} (h : DM H0 ρ te fa (aE K) m) : DM H0 ρ (tCB (rAll K) (tCons te tNil)) true (aE K) (b1 allM m) := fun x e => by
  obtain ⟨xs, h1, h2⟩ := b1_some e
  cases h2
  exact de_all (h _ h1)
theorem dm_join {mz : Option Str} {my : Option (List Str)} (ha : DM H0 ρ ta fa (aE K) mz) (hb : DM H0 ρ tb fb (aE K) my) :
    DM H0 ρ (tM1 (fun x xs H Q => ∃ a p, ∃ ys : List Str, x = .str a ∧ xs = [.ref p] ∧ (SqL K H p (ys.map V.str) ∨ SqT K H p (ys.map V.str)) ∧ (ys.map (·.length)).sum + ys.length * a.length ≤ 16777216 ∧ Q (.str (Txt.join a ys)) H) ta tb) true (aE K) (b2 joinM mz my) := fun x e => by
  obtain ⟨z, ys, h1, h2, h⟩ := b2_some e
  unfold joinM at h
  split at h
  · cases h
    exact de_join (ha _ h1) (hb _ h2) (by assumption)
  · cases h
/-! displays -/
def DAm (H0 : Hp) (K : PySem.W.Frag) (ρ : List Slot) (t : TA) (f : Bool) {α : Type} [Enc α] (m : Option (List α)) : Prop := ∀ xs, m = some xs → DAd H0 K ρ t f (xs.map en)
def consM {α : Type} (x : α) (xs : List α) : Option (List α) := some (x :: xs)
theorem dam_nil [Enc α] : DAm H0 K ρ tNil f (some ([] : List α)) := fun xs e => by cases e; exact dad_nil
theorem dam_cons [Enc α] {t : TA} {m : Option α} {ms : Option (List α)} (h : DM H0 ρ te f (aE K) m) (hr : DAm H0 K ρ t f ms) : DAm H0 K ρ (tCons te t) f (b2 consM m ms) := fun xs e => by
  obtain ⟨y, ys, h1, h2, h'⟩ := b2_some e
  cases h'
  exact dad_cons (h _ h1) (hr _ h2)
def shortM {α : Type} (xs : List α) : Option (List α) := if xs.length ≤ 1000 then some xs else none
theorem dm_lst [Enc α] {t : TA} {m : Option (List α)} (h : DAm H0 K ρ t f m) : DM H0 ρ (tLst t) f (aE K) (b1 shortM m) := fun xs e => by
  obtain ⟨ys, h1, h2⟩ := b1_some e
  unfold shortM at h2
  split at h2
  · rename_i hl; cases h2; exact de_lst (h _ h1) (by rw [List.length_map]; exact hl)
  · cases h2
def mk2 {α β : Type} (a : α) (b : β) : Option (P2 α β) := some ⟨a, b⟩
def mk3 {α β γ : Type} (a : α) (b : β) (c : γ) : Option (P3 α β γ) := some ⟨a, b, c⟩
def mk4 {α β γ δ : Type} (a : α) (b : β) (c : γ) (d : δ) : Option (P4 α β γ δ) := some ⟨a, b, c, d⟩
theorem dm_tup3 [Enc α] [Enc β] [Enc γ] {m1 : Option α} {m2 : Option β} {m3 : Option γ} (h1 : DM H0 ρ ta f (aE K) m1) (h2 : DM H0 ρ tb f (aE K) m2) (h3 : DM H0 ρ tc f (aE K) m3) : DM H0 ρ (tTup (tCons ta (tCons tb (tCons tc tNil)))) f (aE K) (b3 mk3 m1 m2 m3) := fun xs e => by
  obtain ⟨a, b, c, e1, e2, e3, h⟩ := b3_some e
  cases h
  exact de_tup (dad_cons (h1 _ e1) (dad_cons (h2 _ e2) (dad_cons (h3 _ e3) dad_nil)))
/-! borrowing -/
theorem dm_bor [Enc α] [Flt α] {ρ' : List Slot} {m : Option α} (bo : Bo H0 ρ ρ') (h : DM H0 ρ' te f (aE K) m) : DM H0 ρ te true (aE K) m := fun x e => de_bor bo (h x e) (Flt.fl x)
theorem dtm_bor {ρ' : List Slot} {t : TT} {m : Option Bool} (bo : Bo H0 ρ ρ') (h : DTm K H0 ρ' t m) : DTm K H0 ρ t m := fun x e => dt_bor bo (h x e)
theorem bo_ownE [Enc α] {i : Nat} {xs : List α} (hi : ρ[i]? = some (.own (oE K xs))) : Bo H0 ρ (ρ.set i (sl true (aE K xs))) := bo_own hi
end
/-! ### calls -/
def sp1 {α γ : Type} (A : α → Abs) (C : γ → Abs) (F : α → Option γ) : Spec := fun As R => ∃ a c, As = [A a] ∧ F a = some c ∧ R = C c
def sp2 {α β γ : Type} (A : α → Abs) (B : β → Abs) (C : γ → Abs) (F : α → β → Option γ) : Spec := fun As R => ∃ a b c, As = [A a, B b] ∧ F a b = some c ∧ R = C c
def sp3 {α β δ γ : Type} (A : α → Abs) (B : β → Abs) (D : δ → Abs) (C : γ → Abs) (F : α → β → δ → Option γ) : Spec := fun As R => ∃ a b d c, As = [A a, B b, D d] ∧ F a b d = some c ∧ R = C c
def sp4 {α β δ ε γ : Type} (A : α → Abs) (B : β → Abs) (D : δ → Abs) (E : ε → Abs) (C : γ → Abs) (F : α → β → δ → ε → Option γ) : Spec := fun As R => ∃ a b d e c, As = [A a, B b, D d, E e] ∧ F a b d e = some c ∧ R = C c
def sp5 {α β δ ε ζ γ : Type} (A : α → Abs) (B : β → Abs) (D : δ → Abs) (E : ε → Abs) (G : ζ → Abs) (C : γ → Abs) (F : α → β → δ → ε → ζ → Option γ) : Spec := fun As R => ∃ a b d e g c, As = [A a, B b, D d, E e, G g] ∧ F a b d e g = some c ∧ R = C c
section
variable {H0 : Hp} {ρ ρ' : List Slot} {K : PySem.W.Frag} {f fa fb fc fd fe : Bool} {ta tb tc td te : TE} {α β γ δ ε ζ : Type} {A : α → Abs} {B : β → Abs} {C : γ → Abs} {D : δ → Abs} {E' : ε → Abs} {G : ζ → Abs} {Ex : XK} {ma : Option α} {mb : Option β} {md : Option δ} {me : Option ε} {mg : Option ζ}
theorem dm_call1 {F : α → Option γ} (bo : Bo H0 ρ ρ') (h1 : DM H0 ρ' ta fa A ma) : DM H0 ρ (tCall (spF (sp1 A C F)) [] Ex (tCons ta tNil)) true C (b1 F ma) := fun x e => by
  obtain ⟨a, e1, h⟩ := b1_some e
  exact de_call bo (da_cons (h1 _ e1) da_nil) ⟨a, x, rfl, h, rfl⟩
theorem dm_call2 {F : α → β → Option γ} (bo : Bo H0 ρ ρ') (h1 : DM H0 ρ' ta fa A ma) (h2 : DM H0 ρ' tb fb B mb) : DM H0 ρ (tCall (spF (sp2 A B C F)) [] Ex (tCons ta (tCons tb tNil))) true C (b2 F ma mb) := fun x e => by
  obtain ⟨a, b, e1, e2, h⟩ := b2_some e
  exact de_call bo (da_cons (h1 _ e1) (da_cons (h2 _ e2) da_nil)) ⟨a, b, x, rfl, h, rfl⟩
theorem dm_call3 {F : α → β → δ → Option γ} (bo : Bo H0 ρ ρ') (h1 : DM H0 ρ' ta fa A ma) (h2 : DM H0 ρ' tb fb B mb) (h3 : DM H0 ρ' tc fc D md) : DM H0 ρ (tCall (spF (sp3 A B D C F)) [] Ex (tCons ta (tCons tb (tCons tc tNil)))) true C (b3 F ma mb md) := fun x e => by
  obtain ⟨a, b, d, e1, e2, e3, h⟩ := b3_some e
  exact de_call bo (da_cons (h1 _ e1) (da_cons (h2 _ e2) (da_cons (h3 _ e3) da_nil))) ⟨a, b, d, x, rfl, h, rfl⟩
/-! methods of objects: A is an object's -/
variable {Cl : Addr} {m : Str} {O : α → List (Str × Abs)}
def si1 {α γ : Type} (A : α → Abs) (O : γ → List (Str × Abs)) (F : α → Option γ) : List Abs → List (Str × Abs) → Prop := fun As fas => ∃ a c, As = [A a] ∧ F a = some c ∧ fas = O c
def si3 {α β δ γ : Type} (A : α → Abs) (B : β → Abs) (D : δ → Abs) (O : γ → List (Str × Abs)) (F : α → β → δ → Option γ) : List Abs → List (Str × Abs) → Prop := fun As fas => ∃ a b d c, As = [A a, B b, D d] ∧ F a b d = some c ∧ fas = O c
end
end Kj

set_option Elab.async false
set_option linter.all false
set_option maxRecDepth 100000
set_option maxHeartbeats 4000000
/-! Kj11: walks, comprehensions, blocks, defs, by programs. -/
namespace Kj
open PySem L2
/-! ### walks -/
def DWm (H0 : Hp) (ρ : List Slot) (wi : TI) (f : Bool) {α : Type} (A : α → Abs) (m : Option (List α)) : Prop := ∀ xs, m = some xs → DW H0 ρ wi xs.length f (fun i => match xs[i]? with | some x => A x | none => aNo)
@[irreducible] def rngM (j : Int) : Option (List Int) := if -(2 ^ 62) ≤ j ∧ j < 2 ^ 62 then some ((List.range j.toNat).map fun n : Nat => (n : Int)) else none
@[irreducible] def rng2M (l j : Int) : Option (List Int) := if -(2 ^ 62) ≤ l ∧ l < 2 ^ 62 ∧ -(2 ^ 62) ≤ j ∧ j < 2 ^ 62 then some ((List.range (j - l).toNat).map fun n : Nat => l + (n : Int)) else none
def strM (z : Str) : Option (List Str) := some (z.cps.toList.map fun c => (⟨#[c]⟩ : Str))
def zipM {α β : Type} (xs : List α) (ys : List β) : Option (List (P2 α β)) := some ((xs.zip ys).map fun p => ⟨p.1, p.2⟩)
def enumM {α : Type} (xs : List α) : Option (List (P2 Int α)) := some (xs.zipIdx.map fun p => ⟨(p.2 : Int), p.1⟩)
section
variable {H0 : Hp} {ρ : List Slot} {K : PySem.W.Frag} {f fa fb fc g : Bool} {ta tb tc te : TE} {α β γ δ : Type}
theorem dw_congr {wi : TI} {n : Nat} {As As' : Nat → Abs} (h : DW H0 ρ wi n f As) (e : ∀ i, i < n → As i = As' i) : DW H0 ρ wi n f As' := fun σ H Hr R E k => h σ H Hr R E fun J H' Hr' x w => k J H' Hr' x fun G Gr s1 s2 s3 => by
  obtain ⟨w1, w2⟩ := w G Gr s1 s2 s3
  exact ⟨fun i hi => ⟨(w1 i hi).1, fun x G' y => by
    obtain ⟨Gr', x', a⟩ := (w1 i hi).2 x G' y
    exact ⟨Gr', x', e i hi ▸ a⟩⟩, w2⟩
theorem dwm_list [Enc α] {m : Option (List α)} (h : DM H0 ρ te f (aE K) m) : DWm H0 ρ (iList K te) f (aE K) m := fun xs e => by
  have w := dw_list (h xs e)
  rw [List.length_map] at w
  refine dw_congr w fun i hi => ?_
  rw [List.getD_eq_getElem?_getD, List.getElem?_map, List.getElem?_eq_getElem hi]
  rfl
theorem dwm_rng1 {m : Option Int} (h : DM H0 ρ te fa (aE K) m) : DWm H0 ρ (iRng1 (tCons te tNil)) true (aE K) (b1 rngM m) := fun xs e => by
  obtain ⟨j, h1, h2⟩ := b1_some e
  unfold rngM at h2
  split at h2
  · rename_i hb
    cases h2
    have w := dw_rng1 (f := true) (h j h1) hb.1 hb.2
    rw [List.length_map, List.length_range]
    refine dw_congr w fun i hi => ?_
    rw [List.getElem?_map, List.getElem?_range hi]
    rfl
  · cases h2
theorem dwm_rng2 {m m' : Option Int} (h : DM H0 ρ ta fa (aE K) m) (h' : DM H0 ρ tb fb (aE K) m') : DWm H0 ρ (iRng2 (tCons ta (tCons tb tNil))) true (aE K) (b2 rng2M m m') := fun xs e => by
  obtain ⟨l, j, h1, h2, h3⟩ := b2_some e
  unfold rng2M at h3
  split at h3
  · rename_i hb
    cases h3
    have w := dw_rng2 (f := true) (h l h1) (h' j h2) hb
    rw [List.length_map, List.length_range]
    refine dw_congr w fun i hi => ?_
    rw [List.getElem?_map, List.getElem?_range hi]
    rfl
  · cases h3
theorem dwm_str {m : Option Str} (h : DM H0 ρ te fa (aE K) m) : DWm H0 ρ (iStr te) true (aE K) (b1 strM m) := fun xs e => by
  obtain ⟨z, h1, h2⟩ := b1_some e
  cases h2
  have w := dw_str (f := true) (h z h1)
  rw [List.length_map, Array.length_toList]
  refine dw_congr w fun i hi => ?_
  rw [List.getElem?_map, Array.getElem?_toList, Array.getElem?_eq_getElem hi, Array.getD_eq_getD_getElem?, Array.getElem?_eq_getElem hi]
  rfl
theorem dwm_enum [Enc α] {m : Option (List α)} (h : DM H0 ρ ta f (aE K) m) : DWm H0 ρ (iEnum K (tCons ta tNil)) f (aE K) (b1 enumM m) := fun xs e => by
  obtain ⟨us, h1, h3⟩ := b1_some e
  cases h3
  have w := dw_enum (h us h1)
  rw [List.length_map] at w
  rw [List.length_map, List.length_zipIdx]
  refine dw_congr w fun i hi => ?_
  rw [List.getElem?_map, List.getElem?_zipIdx, List.getElem?_eq_getElem hi, List.getD_eq_getElem?_getD, List.getElem?_map, List.getElem?_eq_getElem hi]
  show aD K _ = aD K _
  congr 3
  show PyData.int (i : Int) = PyData.int ((0 + i : Nat) : Int)
  rw [Nat.zero_add]
/-! ### comprehensions -/
def lcF {α β : Type} (g : α → Option (Option β)) : List α → Option (List β)
  | [] => some []
  | x :: xs => (g x).bind fun o => (lcF g xs).bind fun ys => some (o.toList ++ ys)
@[irreducible] def lcM {α β : Type} (g : α → Option (Option β)) (xs : List α) : Option (List β) := if xs.length ≤ 100000 then lcF g xs else none
def lcE {β : Type} (mt : Option Bool) (me : Option β) : Option (Option β) := mt.bind fun b => if b = true then me.map some else some none
theorem EnvOk.out2 {σ : St} {H Hr : Hp} (E : EnvOk H0 σ ρ H Hr) (nr : noReg ρ = true) {D : Addr} {o : HO} (hD : ∀ (i : Nat) (B : AbsO) (p : Addr), ρ[i]? = some (.own B) → σ[i]? = some (some (.ref p)) → p ≠ D) (h0 : H0 D = none) (hr : Hr D = none) : EnvOk H0 σ ρ (upd H D o) Hr := by
  refine ⟨fun a u e => ?_, fun a u e => ?_, E.len, fun i s hs => ?_, E.dis, .nil (noReg_at nr)⟩
  · rw [upd_ne (ne_of_none e h0)]; exact E.base _ _ e
  · rw [upd_ne (ne_of_none e hr)]; exact E.sub _ _ e
  · have q := E.slot i s hs
    cases s with
    | no => trivial
    | dat A => exact q
    | new A => exact q
    | reg A => trivial
    | own B =>
      obtain ⟨p, o', e1, e2, e3, e4, e5⟩ := q
      exact ⟨p, o', e1, e2, e3, by rw [upd_ne (hD i B p hs e1)]; exact e4, e5⟩
theorem de_lc2 {wi : TI} {n : Nat} {As : Nat → Abs} {g : TG} {tt : TT} {vs : List Nat} {fw : Bool} (hw : DW H0 ρ wi n fw As) (nr : noReg ρ = true) (hn : n ≤ 100000) (e : Nat → Option PyData)
    (hs : ∀ k, k < n → ∃ r', DG H0 (wipeS ρ vs) g fw (As k) r' vs ∧ DT K H0 r' tt (e k).isSome ∧ ∀ d, e k = some d → DE H0 r' te f (aD K d)) : DE H0 ρ (tLc wi g tt te vs) f (aD K (.list (made e n))) := fun σ H Hr Q E k => by
  refine hw σ H Hr _ E fun J H1 Hr1 x1 wk D hD => ?_
  have E1 := E.ext x1
  have hr1 : Hr1 D = none := x1.s.free hD
  have hd0 : H0 D = none := E1.base.free hD
  have hDo : ∀ (i : Nat) (B : AbsO) (p : Addr), (wipeS ρ vs)[i]? = some (.own B) → (wipe σ vs)[i]? = some (some (.ref p)) → p ≠ D := fun i B p h1 h2 => by
    obtain ⟨q, o, q1, _, _, q4, _⟩ := (E1.wipe vs).slot i _ h1
    rw [h2] at q1
    cases q1
    exact ne_of_none q4 hD
  let Pv : Nat → Hp → Prop := fun i G => ∃ Gr ys, G D = some (.lst ys) ∧ Gr D = none ∧ EnvOk H0 (wipe σ vs) (wipeS ρ vs) G Gr ∧ Same Hr1 Gr ∧ Same H1 G ∧ (∀ a o, Gr a = some o → Hr1 a = none → H1 a = none) ∧ DpAll K (hp f Gr H0) ys (made e i)
  have up : Same H1 (upd H1 D (.lst [])) := fun a u q => by rw [upd_ne (ne_of_none q hD)]; exact q
  refine ⟨fun i m G => m = n - i ∧ i ≤ n ∧ Pv i G, ⟨n, by simp, Nat.zero_le _, Hr1, [], upd_same, hr1, (E1.wipe vs).out2 (noReg_wipe nr vs) hDo hd0 hr1, Same.refl _, up, (fun a o h h' => by rw [h] at h'; cases h'), .nil⟩, ?_⟩
  rintro i m G ⟨rfl, hi, Gr, ys, hG, hGr, EG, s1, s2, nw, dp⟩
  obtain ⟨w1, w2⟩ := wk G Gr s1 EG.sub EG.base
  by_cases hlt : i < n
  · obtain ⟨go, yl⟩ := w1 i hlt
    refine .inr ⟨go, Pv (i + 1), fun G' q => ⟨n - (i + 1), by omega, rfl, hlt, q⟩, fun x G2 y => ?_⟩
    obtain ⟨Gr2, x2, a2⟩ := yl x G2 y
    obtain ⟨r', dg, dt, de⟩ := hs i hlt
    refine dg _ G2 Gr2 x _ (EG.ext x2) a2 fun σ2 E2 ew => ⟨?_, ?_⟩
    · rw [ew]
      clear dg dt de
      have : ∀ (us : List Nat) (τ : St), (∀ v ∈ us, v ∈ vs) → wipe (wipe τ us) vs = wipe τ vs := by
        intro us
        induction us with
        | nil => intro τ _; rfl
        | cons v us ih =>
          intro τ h
          show wipe ((wipe τ us).set v none) vs = _
          rw [wipe_set (h v (by simp))]
          exact ih τ fun v hv => h v (by simp [hv])
      exact this vs σ fun v h => h
    · have keepD : ∀ {A B C1 C2 : Hp}, Ext A B C1 C2 → A D = some (.lst ys) → B D = none → C1 D = some (.lst ys) ∧ C2 D = none := fun {A B C1 C2} xx ha hb => ⟨xx.h _ _ ha, by
        cases q : C2 D with
        | none => rfl
        | some o => have := xx.n D o q hb; rw [ha] at this; cases this⟩
      obtain ⟨d2, e2⟩ := keepD x2 hG hGr
      refine dt σ2 G2 Gr2 _ E2 fun G3 Gr3 x3 => ?_
      obtain ⟨d3, e3⟩ := keepD x3 d2 e2
      have x23 := x2.trans x3
      have nw' : ∀ {C1 C2 : Hp}, Ext G Gr C1 C2 → ∀ a o, C2 a = some o → Hr1 a = none → H1 a = none := fun {C1 C2} xx a o q q' => by
        cases z : Gr a with
        | some u => exact nw a u z q'
        | none => exact s2.free (xx.n a o q z)
      cases he : e i with
      | none =>
        rw [Option.isSome_none, if_neg Bool.false_ne_true]
        refine ⟨Gr3, ys, d3, e3, EG.ext x23, s1.trans x23.r, s2.trans x23.h, nw' x23, ?_⟩
        unfold made
        rw [he]
        show DpAll K _ ys (made e i ++ [])
        rw [List.append_nil]
        exact dpa_mono (hp_mono f H0 x23.r) _ _ dp
      | some d =>
        rw [Option.isSome_some, if_pos rfl]
        refine de d he σ2 G3 Gr3 _ (E2.ext x3) fun y G4 Gr4 x4 a4 => ?_
        obtain ⟨d4, e4⟩ := keepD x4 d3 e3
        have x24 := x23.trans x4
        refine ⟨ys, d4, ?_, Gr4, ys ++ [y], upd_same, e4, (EG.ext x24).out2 (noReg_wipe nr vs) hDo hd0 e4, s1.trans x24.r, ?_, nw' x24, ?_⟩
        · rw [dpa_len dp]
          have := made_len e i
          exact Nat.lt_of_le_of_lt (show _ ≤ 100000 by omega) (by rw [sizeLine_eq]; decide)
        · exact fun a u q => by rw [upd_ne (ne_of_none q hD)]; exact x24.h _ _ (s2 _ _ q)
        · unfold made
          rw [he]
          exact dpa_app (dpa_mono (hp_mono f H0 x24.r) _ _ dp) (.cons a4 .nil)
  · have e' : i = n := by omega
    subst e'
    refine .inl ⟨w2, k (.ref D) G (upd Gr D (.lst ys)) (x1.trans ⟨s2, fun a u q => by rw [upd_ne (ne_of_none q hr1)]; exact s1 _ _ q, fun a u q => ?_, fun a o q q' => ?_⟩) (.lst (SqL.of ?_) (dpa_mono (hp_mono f H0 fun a u q => by rw [upd_ne (ne_of_none q hGr)]; exact q) _ _ dp))⟩
    · by_cases z : a = D
      · subst z; rw [upd_same] at q; cases q; exact hG
      · rw [upd_ne z] at q; exact EG.sub _ _ q
    · by_cases z : a = D
      · subst z; exact hD
      · rw [upd_ne z] at q; exact nw a o q q'
    · cases f
      · exact upd_same
      · exact mns_some.mpr ⟨hd0, upd_same⟩
theorem lcF_at {α β : Type} {g : α → Option (Option β)} : ∀ {xs : List α} {ys : List β}, lcF g xs = some ys → ∀ (i : Nat) (x : α), xs[i]? = some x → ∃ o, g x = some o
  | [], _, _, i, x, e => by simp at e
  | y :: xs, ys, h, 0, x, e => by
    obtain ⟨o, h1, _⟩ := Option.bind_eq_some_iff.mp h
    simp at e; subst e
    exact ⟨o, h1⟩
  | y :: xs, ys, h, i + 1, x, e => by
    obtain ⟨o, h1, h2⟩ := Option.bind_eq_some_iff.mp h
    obtain ⟨zs, h3, _⟩ := Option.bind_eq_some_iff.mp h2
    exact lcF_at h3 i x (by simpa using e)
/-- what stands in the list, by turns -/
theorem made_cons (e : Nat → Option PyData) : ∀ n, made e (n + 1) = (e 0).toList ++ made (fun k => e (k + 1)) n
  | 0 => by simp [made]
  | n + 1 => by
    show made e (n + 1) ++ (e (n + 1)).toList = _
    rw [made_cons e n, List.append_assoc]
    rfl
theorem made_lc {α β : Type} [Enc β] {g : α → Option (Option β)} : ∀ {xs : List α} {ys : List β}, lcF g xs = some ys →
    made (fun i => match xs[i]? with | some x => (match g x with | some (some y) => some (en y) | _ => none) | none => none) xs.length = ys.map en
  | [], ys, h => by cases h; rfl
  | x :: xs, ys, h => by
    obtain ⟨o, h1, h2⟩ := Option.bind_eq_some_iff.mp h
    obtain ⟨zs, h3, h4⟩ := Option.bind_eq_some_iff.mp h2
    cases h4
    rw [List.length_cons, made_cons]
    have ih := made_lc h3
    simp only [List.getElem?_cons_zero, List.getElem?_cons_succ, h1]
    rw [ih, List.map_append]
    cases o <;> rfl
theorem dm_lc [Enc β] {Ax : α → Abs} {mit : Option (List α)} {mt : α → Option Bool} {me : α → Option β} {r' : α → List Slot} {wi : TI} {g : TG} {tt : TT} {vs : List Nat} {fw : Bool} (hw : DWm H0 ρ wi fw Ax mit)
    (hg : ∀ x, DG H0 (wipeS ρ vs) g fw (Ax x) (r' x) vs) (ht : ∀ x, DTm K H0 (r' x) tt (mt x)) (he : ∀ x, DM H0 (r' x) te f (aE K) (me x)) (nr : noReg ρ = true := by rfl) : DM H0 ρ (tLc wi g tt te vs) f (aE K) (b1 (lcM fun x => lcE (mt x) (me x)) mit) := fun ys e => by
  obtain ⟨xs, h1, h2⟩ := b1_some e
  unfold lcM at h2
  split at h2
  · rename_i hl
    refine de_eq (de_lc2 (hw xs h1) nr hl (fun i => match xs[i]? with | some x => (match lcE (mt x) (me x) with | some (some y) => some (en y) | _ => none) | none => none) fun k hk => ?_) (congrArg PyData.list (made_lc h2))
    simp only [List.getElem?_eq_getElem hk]
    refine ⟨_, hg xs[k], ?_, fun d hd => ?_⟩
    · obtain ⟨o, ho⟩ := lcF_at h2 k xs[k] (List.getElem?_eq_getElem hk)
      rw [ho]
      obtain ⟨b, hb, ho⟩ := Option.bind_eq_some_iff.mp ho
      cases b with
      | true =>
        rw [if_pos rfl] at ho
        obtain ⟨y, hy, rfl⟩ := Option.map_eq_some_iff.mp ho
        exact ht _ _ hb
      | false =>
        rw [if_neg Bool.false_ne_true] at ho
        cases ho
        exact ht _ _ hb
    · obtain ⟨o, ho⟩ := lcF_at h2 k xs[k] (List.getElem?_eq_getElem hk)
      rw [ho] at hd
      obtain ⟨b, hb, ho⟩ := Option.bind_eq_some_iff.mp ho
      cases b with
      | true =>
        rw [if_pos rfl] at ho
        obtain ⟨y, hy, rfl⟩ := Option.map_eq_some_iff.mp ho
        cases hd
        exact he _ _ hy
      | false =>
        rw [if_neg Bool.false_ne_true] at ho
        cases ho
        cases hd
  · cases h2
end
/-! ### blocks -/
/-- what is raised: the class's name, its fields -/
structure Exn where
  name : Str
  flds : List (Str × Int)
  deriving DecidableEq
def xP (K : PySem.W.Frag) (e : Exn) : XA := fun cls d H => cls = .ref (He.ga K e.name) ∧ (match e.flds with
  | [] => d = none
  | fs => ∃ p, d = some p ∧ H p = some (.xd (fs.map fun q => (q.1, .int q.2))))
inductive Fl (S R : Type) where
  | nx (s : S)
  | rt (r : R)
  | ex (e : Exn)
/-- what a def that may raise comes to -/
inductive Rs (R : Type) where
  | ok (r : R)
  | ex (e : Exn)
  deriving DecidableEq
def bindF {S1 S R : Type} (m : Option (Fl S1 R)) (k : S1 → Option (Fl S R)) : Option (Fl S R) := m.bind fun fl => match fl with | .nx s => k s | .rt r => some (.rt r) | .ex e => some (.ex e)
@[simp] theorem bindF_nx {S1 S R : Type} {s : S1} {k : S1 → Option (Fl S R)} : bindF (some (.nx s)) k = k s := rfl
@[simp] theorem bindF_rt {S1 S R : Type} {r : R} {k : S1 → Option (Fl S R)} : bindF (some (.rt r)) k = some (.rt r) := rfl
@[simp] theorem bindF_ex {S1 S R : Type} {e : Exn} {k : S1 → Option (Fl S R)} : bindF (some (.ex e)) k = some (.ex e) := rfl
def flR {S R : Type} (A : R → Abs) : Fl S R → Abs
  | .rt r => A r
  | .nx _ => aNo
  | .ex _ => aNo
def flZ {S R : Type} (K : PySem.W.Frag) : Fl S R → List Slot → XA
  | .ex e => fun _ => xP K e
  | .nx _ => fun _ _ _ _ => False
  | .rt _ => fun _ _ _ _ => False
/-- the way out by a raise -/
structure WK where
  W : WX
  K : PySem.W.Frag
abbrev wz {S R : Type} (G : WK) (fl : Fl S R) : WZ := ⟨G.W, flZ G.K fl⟩
def DB (G : WK) (H0 : Hp) (ρ : List Slot) (t : TS) {S R : Type} (A : R → Abs) (m : Option (Fl S R)) (B : S → List Slot) : Prop := ∀ fl, m = some fl → DS (wz G fl) H0 ρ t (fun r => ∃ s, fl = .nx s ∧ r = B s) (flR A fl)
inductive Wk1 : Slot → Slot → Prop
  | same {s : Slot} : Wk1 s s
  | drop {s : Slot} : Wk1 s .no
  | low {A : Abs} : Wk1 (sl true A) (sl false A)
inductive Wks : List Slot → List Slot → Prop
  | nil : Wks [] []
  | cons {s s' : Slot} {l l' : List Slot} : Wk1 s s' → Wks l l' → Wks (s :: l) (s' :: l')
theorem Wks.rfl : ∀ {l : List Slot}, Wks l l
  | [] => .nil
  | _ :: _ => .cons .same Wks.rfl
theorem Wks.at : ∀ {l l' : List Slot}, Wks l l' → ∀ (i : Nat) (s' : Slot), l'[i]? = some s' → ∃ s, l[i]? = some s ∧ Wk1 s s'
  | _, _, .nil, i, s', e => by simp at e
  | _, _, .cons h t, 0, s', e => by simp at e; subst e; exact ⟨_, by simp, h⟩
  | _, _, .cons h t, i + 1, s', e => by
    obtain ⟨s, h1, h2⟩ := t.at i s' (by simpa using e)
    exact ⟨s, by simpa using h1, h2⟩
theorem Wks.len : ∀ {l l' : List Slot}, Wks l l' → l.length = l'.length
  | _, _, .nil => by rfl
  | _, _, .cons _ t => by simp [t.len]
theorem wk_own {s : Slot} {B : AbsO} (h : Wk1 s (.own B)) : s = .own B := by
  cases h; rfl
theorem EnvOk.wk {H0 : Hp} {σ : St} {ρ ρ' : List Slot} {H Hr : Hp} (E : EnvOk H0 σ ρ H Hr) (w : Wks ρ ρ') : EnvOk H0 σ ρ' H Hr := by
  refine ⟨E.base, E.sub, by rw [E.len, w.len], fun i s hs => ?_, fun i j p B B' hij hi hj ei ej => ?_, E.reg.to (fun i A h => by
    obtain ⟨s0, h1, h2⟩ := w.at i _ h
    cases h2
    exact ⟨h1, rfl⟩) (fun a o h1 h2 h3 _ => ⟨h1, h2, h3⟩) fun j B p h hs => by
    obtain ⟨s0, h1, h2⟩ := w.at j _ h
    have e := wk_own h2
    subst e
    exact .inl ⟨B, h1, hs⟩⟩
  · obtain ⟨s0, h1, h2⟩ := w.at i s hs
    have q := E.slot i s0 h1
    cases h2 with
    | same => exact q
    | drop => trivial
    | low => obtain ⟨v, e, a⟩ := q; exact ⟨v, e, Abs.mono _ _ _ _ mns_sub a⟩
  · obtain ⟨s0, h1, h2⟩ := w.at i _ hi
    obtain ⟨s1, h3, h4⟩ := w.at j _ hj
    have e1 := wk_own h2
    have e2 := wk_own h4
    subst e1 e2
    exact E.dis i j p B B' hij h1 h3 ei ej
def forF {α S R : Type} (b : α → S → Option (Fl S R)) : List α → S → Option (Fl S R)
  | [], s => some (.nx s)
  | x :: xs, s => bindF (b x s) fun s' => forF b xs s'
def whileF {S R : Type} (c : S → Option Bool) (b : S → Option (Fl S R)) : Nat → S → Option (Fl S R)
  | 0, _ => none
  | n + 1, s => (c s).bind fun t => if t = true then bindF (b s) fun s' => whileF c b n s' else some (.nx s)
@[irreducible] def fuelN : Nat := 100000
def finF {S R : Type} (m : Option (Fl S R)) : Option R := m.bind fun fl => match fl with | .rt r => some r | _ => none
/-- a def that hands back None where its block ends -/
def finN {S : Type} (m : Option (Fl S Unit)) : Option Unit := m.bind fun fl => match fl with | .ex _ => none | _ => some ()
def finO {S R : Type} (m : Option (Fl S (Option R))) : Option (Option R) := m.bind fun fl => match fl with | .rt r => some r | .nx _ => some none | .ex _ => none
/-- of a def that may raise -/
def finX {S R : Type} (m : Option (Fl S R)) : Option (Rs R) := m.bind fun fl => match fl with | .rt r => some (.ok r) | .ex e => some (.ex e) | .nx _ => none
def finXN {S : Type} (m : Option (Fl S Unit)) : Option (Rs Unit) := m.bind fun fl => match fl with | .ex e => some (.ex e) | _ => some (.ok ())
def finXO {S R : Type} (m : Option (Fl S (Option R))) : Option (Rs (Option R)) := m.bind fun fl => match fl with | .rt r => some (.ok r) | .nx _ => some (.ok none) | .ex e => some (.ex e)
@[simp] theorem finF_rt {S R : Type} {r : R} : finF (some (.rt r) : Option (Fl S R)) = some r := rfl
@[simp] theorem finN_nx {S : Type} {r : S} : finN (some (.nx r : Fl S Unit)) = some () := rfl
@[simp] theorem finN_rt {S : Type} {r : Unit} : finN (some (.rt r : Fl S Unit)) = some () := rfl
@[simp] theorem finO_nx {S R : Type} {r : S} : finO (some (.nx r : Fl S (Option R))) = some none := rfl
@[simp] theorem finO_rt {S R : Type} {r : Option R} : finO (some (.rt r : Fl S (Option R))) = some r := rfl
@[simp] theorem finX_rt {S R : Type} {r : R} : finX (some (.rt r) : Option (Fl S R)) = some (.ok r) := rfl
@[simp] theorem finX_ex {S R : Type} {e : Exn} : finX (some (.ex e) : Option (Fl S R)) = some (.ex e) := rfl
@[simp] theorem finXN_nx {S : Type} {r : S} : finXN (some (.nx r : Fl S Unit)) = some (.ok ()) := rfl
@[simp] theorem finXN_rt {S : Type} {r : Unit} : finXN (some (.rt r : Fl S Unit)) = some (.ok ()) := rfl
@[simp] theorem finXN_ex {S : Type} {e : Exn} : finXN (some (.ex e : Fl S Unit)) = some (.ex e) := rfl
def appM {α β : Type} (xs : List α) (x : α) (k : List α → Option β) : Option β := if xs.length < 100000 then k (xs ++ [x]) else none
section
variable {G : WK} {C : WZ} {H0 : Hp} {ρ ρ' : List Slot} {K : PySem.W.Frag} {f fa fb fc : Bool} {ta tb tc te : TE} {α β γ δ S S1 R : Type} {A : R → Abs} {B : S → List Slot} {t u w : TS}
theorem ds_wk {N : List Slot → Prop} {Rr : Abs} (w : Wks ρ ρ') (h : DS C H0 ρ' t N Rr) : DS C H0 ρ t N Rr := fun σ H Hr D E kn kr kx => h σ H Hr D (E.wk w) kn kr kx
theorem ds_noR {N : List Slot → Prop} {Rr : Abs} (h : DS C H0 ρ t N aNo) : DS C H0 ρ t N Rr := fun σ H Hr D E kn kr kx => h σ H Hr D E kn (fun v H' s _ z => z.elim) kx
theorem bindF_some {m : Option (Fl S1 R)} {k : S1 → Option (Fl S R)} {fl : Fl S R} (h : bindF m k = some fl) : (∃ s, m = some (.nx s) ∧ k s = some fl) ∨ (∃ r, m = some (.rt r) ∧ fl = .rt r) ∨ ∃ e, m = some (.ex e) ∧ fl = .ex e := by
  obtain ⟨x, h1, h2⟩ := Option.bind_eq_some_iff.mp h
  cases x with
  | nx s => exact .inl ⟨s, h1, h2⟩
  | rt r => cases h2; exact .inr (.inl ⟨r, h1, rfl⟩)
  | ex e => cases h2; exact .inr (.inr ⟨e, h1, rfl⟩)
/-- a way out that nothing takes may be any -/
theorem ds_noX {W : WX} {Z : List Slot → XA} {N : List Slot → Prop} {Rr : Abs} (h : DS ⟨W, fun _ _ _ _ => False⟩ H0 ρ t N Rr) : DS ⟨W, Z⟩ H0 ρ t N Rr := fun σ H Hr D E kn kr kx => h σ H Hr D E kn kr (KX.no fun _ _ _ _ z => z)
theorem db_wk {m : Option (Fl S R)} (w : Wks ρ ρ') (h : DB G H0 ρ' t A m B) : DB G H0 ρ t A m B := fun fl e => ds_wk w (h fl e)
theorem db_nx {s : S} (w : Wks ρ (B s)) : DB G H0 ρ tNext A (some (.nx s)) B := fun fl e => by
  cases e
  exact ds_wk w (ds_next ⟨s, rfl, rfl⟩)
theorem db_seq {m : Option (Fl S1 R)} {k : S1 → Option (Fl S R)} {B1 : S1 → List Slot} (h : DB G H0 ρ t A m B1) (hk : ∀ s, DB G H0 (B1 s) u A (k s) B) : DB G H0 ρ (tSeq t u) A (bindF m k) B := fun fl e => by
  rcases bindF_some e with ⟨s, h1, h2⟩ | ⟨r, h1, rfl⟩ | ⟨x, h1, rfl⟩
  · refine ds_seq (ds_noX (ds_noR (h _ h1))) fun r hr => ?_
    obtain ⟨s', e1, rfl⟩ := hr
    cases e1
    exact hk s fl h2
  · refine ds_seq (h _ h1) fun r hr => ?_
    obtain ⟨s', e1, _⟩ := hr
    cases e1
  · refine ds_seq (h _ h1) fun r hr => ?_
    obtain ⟨s', e1, _⟩ := hr
    cases e1
theorem db_set {i : Nat} {Ax : α → Abs} {m : Option α} {k : α → Option (Fl S R)} (h : DM H0 ρ te f Ax m) (hk : ∀ x, DB G H0 (ρ.set i (sl f (Ax x))) u A (k x) B) (hi : Nat.blt i ρ.length = true := by rfl) : DB G H0 ρ (tSeq (tAsg te (gName i)) u) A (b1 k m) B := fun fl e => by
  obtain ⟨x, h1, h2⟩ := b1_some e
  exact ds_sq (ds_set (h x h1) hi) (hk x fl h2)
theorem db_ret {m : Option R} (h : DM H0 ρ te true A m) : DB G H0 ρ (tSeq (tRet te) u) A (b1 (fun r => some (Fl.rt r : Fl S R)) m) B := fun fl e => by
  obtain ⟨x, h1, h2⟩ := b1_some e
  cases h2
  exact ds_rets (h x h1) fun v G z => z
theorem db_if {ct : TT} {mc : Option Bool} {m1 m2 : Option (Fl S1 R)} {k : S1 → Option (Fl S R)} {B1 : S1 → List Slot} (hc : DTm K H0 ρ ct mc) (h1 : DB G H0 ρ t A m1 B1) (h2 : DB G H0 ρ w A m2 B1) (hk : ∀ s, DB G H0 (B1 s) u A (k s) B) :
    DB G H0 ρ (tSeq (tIfS ct t w) u) A (bindF (iteM mc m1 m2) k) B := by
  refine db_seq (B1 := B1) (fun fl e => ?_) hk
  obtain ⟨c, e1, e2⟩ := Option.bind_eq_some_iff.mp e
  refine ds_if (hc c e1) (fun z => ?_) (fun z => ?_)
  · subst z; exact h1 fl e2
  · subst z; exact h2 fl e2
theorem db_own [Enc α] {i : Nat} {k : List α → Option (Fl S R)} (hk : ∀ x : List α, DB G H0 (ρ.set i (.own (oE K x))) u A (k x) B) (hi : Nat.blt i ρ.length = true := by rfl) : DB G H0 ρ (tSeq (tAsg (tLst tNil) (gName i)) u) A (b1 k (some ([] : List α))) B := fun fl e => ds_sq (ds_own hi) (hk [] fl e)
theorem db_app [Enc α] {i : Nat} {xs : List α} {m : Option α} {k : List α → Option (Fl S R)} (hi : ρ[i]? = some (.own (oE K xs))) (h : DM H0 ρ te true (aE K) m) (hk : ∀ x : List α, DB G H0 (ρ.set i (.own (oE K x))) u A (k x) B) : DB G H0 ρ (tSeq (tDrop (tBM K "list" rAppend (tVar i) (tCons te tNil))) u) A (b1 (fun x => appM xs x k) m) B := fun fl e => by
  obtain ⟨y, h1, h2⟩ := b1_some e
  unfold appM at h2
  split at h2
  · rename_i hl
    have d := ds_app (C := wz G fl) (R := flR A fl) hi (h y h1) (by rw [List.length_map]; exact hl)
    rw [show xs.map en ++ [en y] = (xs ++ [y]).map en by simp] at d
    exact ds_sq d (hk _ fl h2)
  · cases h2
theorem db_bor {m : Option (Fl S R)} (bo : Bo H0 ρ ρ') (h : DB G H0 ρ' t A m B) : DB G H0 ρ t A m B := fun fl e => ds_bor bo (h fl e)
theorem ds_forW {wi : TI} {n : Nat} {As : Nat → Abs} {g : TG} {tb : TS} {Rr : Abs} {ρ0 : List Slot} (hw : DW H0 ρ wi n f As) (I : Nat → List Slot → Prop) (w0 : Wks ρ ρ0) (h0 : I 0 ρ0)
    (hs : ∀ (k : Nat) (r : List Slot), k < n → I k r → ∃ r' vs, DG H0 r g f (As k) r' vs ∧ DS C H0 r' tb (I (k + 1)) Rr) : DS C H0 ρ (tFor wi g tb) (I n) Rr := fun σ H Hr D E kn kr kx => by
  refine hw σ H Hr _ E fun J H1 Hr1 x1 wk => ?_
  refine ⟨fun i m σ' H' => m = n - i ∧ i ≤ n ∧ ∃ r Hr', I i r ∧ EnvOk H0 σ' r H' Hr' ∧ Same Hr1 Hr', ⟨n, by simp, Nat.zero_le _, ρ0, Hr1, h0, (E.ext x1).wk w0, Same.refl _⟩, ?_⟩
  rintro i m σ' H' ⟨rfl, hi, r, Hr', i', E', s⟩
  obtain ⟨w1, w2⟩ := wk H' Hr' s E'.sub E'.base
  by_cases hlt : i < n
  · obtain ⟨go, yl⟩ := w1 i hlt
    refine .inr ⟨go, fun σ2 H2 => ∃ r Hr', I (i + 1) r ∧ EnvOk H0 σ2 r H2 Hr' ∧ Same Hr1 Hr', fun σ2 H2 q => ⟨n - (i + 1), by omega, rfl, hlt, q⟩, fun x H2 y => ?_⟩
    obtain ⟨Hr2, x2, a2⟩ := yl x H2 y
    obtain ⟨r', vs, dg, ds⟩ := hs i r hlt i'
    exact dg σ' H2 Hr2 x _ (E'.ext x2) a2 fun σ2 E2 _ => ds σ2 H2 Hr2 _ E2 (fun r3 σ3 H3 Hr3 n3 E3 s3 => ⟨r3, Hr3, n3, E3, (s.trans x2.r).trans s3⟩) (kr.up (x1.r.trans (s.trans x2.r))) (kx.up (x1.r.trans (s.trans x2.r)))
  · have e : i = n := by omega
    subst e
    exact .inl ⟨w2, kn r σ' H' Hr' i' E' (x1.r.trans s)⟩
theorem db_for {Ax : α → Abs} {mit : Option (List α)} {wi : TI} {g : TG} {tb : TS} {vs : List Nat} {body : α → S1 → Option (Fl S1 R)} {s0 : S1} {k : S1 → Option (Fl S R)} {B1 : S1 → List Slot} {r' : α → S1 → List Slot}
    (hw : DWm H0 ρ wi f Ax mit) (w0 : Wks ρ (B1 s0)) (hg : ∀ x s, DG H0 (B1 s) g f (Ax x) (r' x s) vs) (hb : ∀ x s, DB G H0 (r' x s) tb A (body x s) B1) (hk : ∀ s, DB G H0 (B1 s) u A (k s) B) :
    DB G H0 ρ (tSeq (tFor wi g tb) u) A (bindF (b1 (fun xs => forF body xs s0) mit) k) B := by
  refine db_seq (B1 := B1) (fun fl e => ?_) hk
  obtain ⟨xs, h1, h2⟩ := b1_some e
  have d := ds_forW (C := wz G fl) (Rr := flR A fl) (tb := tb) (g := g) (ρ0 := B1 s0) (hw xs h1) (fun i r => ∃ s, r = B1 s ∧ forF body (xs.drop i) s = some fl) w0 ⟨s0, rfl, h2⟩ ?_
  · refine ds_imp d ?_
    rintro r ⟨s, rfl, h3⟩
    rw [List.drop_length] at h3
    cases h3
    exact ⟨s, rfl, rfl⟩
  · rintro i r hi ⟨s, rfl, h3⟩
    rw [List.drop_eq_getElem_cons hi] at h3
    simp only [List.getElem?_eq_getElem hi]
    refine ⟨_, vs, hg xs[i] s, ?_⟩
    rcases bindF_some h3 with ⟨s', e1, e2⟩ | ⟨r, e1, rfl⟩ | ⟨r, e1, rfl⟩
    · refine ds_imp (ds_noX (ds_noR (hb _ _ _ e1))) ?_
      rintro r ⟨s2, e3, rfl⟩
      cases e3
      exact ⟨s', rfl, e2⟩
    · refine ds_imp (hb _ _ _ e1) ?_
      rintro r ⟨s2, e3, _⟩
      cases e3
    · refine ds_imp (hb _ _ _ e1) ?_
      rintro r ⟨s2, e3, _⟩
      cases e3
theorem db_while {ct : TT} {tb : TS} {c : S1 → Option Bool} {body : S1 → Option (Fl S1 R)} {n : Nat} {s0 : S1} {k : S1 → Option (Fl S R)} {B1 : S1 → List Slot} (w0 : Wks ρ (B1 s0)) (hc : ∀ s, DTm K H0 (B1 s) ct (c s)) (hb : ∀ s, DB G H0 (B1 s) tb A (body s) B1) (hk : ∀ s, DB G H0 (B1 s) u A (k s) B) :
    DB G H0 ρ (tSeq (tWhile ct tb) u) A (bindF (whileF c body n s0) k) B := by
  refine db_wk w0 (db_seq (B1 := B1) (fun fl e => ?_) hk)
  refine ds_while (C := wz G fl) (K := K) (fun m r => ∃ s, r = B1 s ∧ whileF c body m s = some fl) n ⟨s0, rfl, e⟩ ?_
  rintro m r ⟨s, rfl, h⟩
  cases m with
  | zero => cases h
  | succ m =>
    obtain ⟨b, h1, h2⟩ := Option.bind_eq_some_iff.mp h
    refine ⟨b, hc s b h1, fun z => ?_, fun z => ?_⟩
    · subst z
      rw [if_pos rfl] at h2
      rcases bindF_some h2 with ⟨s', e1, e2⟩ | ⟨r, e1, rfl⟩ | ⟨r, e1, rfl⟩
      · refine ds_imp (ds_noX (ds_noR (hb _ _ e1))) ?_
        rintro r ⟨s2, e3, rfl⟩
        cases e3
        exact ⟨m, Nat.lt_succ_self _, s', rfl, e2⟩
      · refine ds_imp (hb _ _ e1) ?_
        rintro r ⟨s2, e3, _⟩
        cases e3
      · refine ds_imp (hb _ _ e1) ?_
        rintro r ⟨s2, e3, _⟩
        cases e3
    · subst z
      rw [if_neg Bool.false_ne_true] at h2
      cases h2
      exact ⟨s, rfl, rfl⟩
theorem db_fin {m : Option (Fl S R)} {c : R} {N : List Slot → Prop} (h : DB ⟨C0.W, K⟩ H0 ρ t A m B) (e : finF m = some c) : DS C0 H0 ρ t N (A c) := by
  obtain ⟨fl, h1, h2⟩ := Option.bind_eq_some_iff.mp e
  cases fl with
  | nx s => cases h2
  | rt r => cases h2; exact ds_imp (h _ h1) fun r ⟨s, e, _⟩ => by cases e
  | ex r => cases h2
end
section
variable {P : Program} {w : World} {K : PySem.W.Frag} {mg : Str → Option Value} {base : Heap}
/-- a def whose block may come to its end: None -/
theorem fnN_ok {x qual : Str} {st : Stmt} {f : Addr} {fd : FuncData} {N ps : List Str} {k : Nat} {S : Spec} (F : FnP K x qual st f fd) (Sc : FnScope N ps (defScope st)) (len : ∀ As R, S As R → As.length = ps.length)
    (body : ∀ (cdv : Value) (A : Around) (outer : List Env) (s : Shared) (H : Hp) (E : XK), Room k (A.deeper (PyProof.Rows.envOfC qual (defScope st) s.heap.objs.size f cdv)) →
      ∃ t, PSs (cxOf CX0 P w K mg base N qual (defScope st) f cdv A outer s H E).nox (defBody st) t ∧ ∀ H0 As R, S As R → DS C0 H0 (As.map Slot.dat ++ List.replicate (N.length - As.length) Slot.no) t (fun _ => ∀ G, R.p .non G) R) : FnOk P w K mg base CX0 (k + 1) f fd ps (spF S) := by
  refine F.ok Sc (fun vs H Q E h => ?_) (fun cdv A outer s H vs Q E hr h => ?_)
  · obtain ⟨As, R, h1, h2, _⟩ := h
    rw [← h2.length]; exact len As R h1
  · obtain ⟨As, R, h1, h2, h3⟩ := h
    obtain ⟨t, p, d⟩ := body cdv A outer s H E hr
    refine ⟨t, p.nox, d H As R h1 _ H H _ ?_ (fun _ _ H' _ n E' _ => h3 .non H' E'.base (n _)) (fun v H' s _ r => h3 v H' s r) (KX.no fun _ _ _ _ z => z)⟩
    have e := env_start (n := N.length - vs.length) h2
    unfold L2.start
    rw [h2.length]
    exact e
theorem lawM_ok {x qual : Str} {st : Stmt} {f : Addr} {fd : FuncData} {N : List Str} {p : Str} {k : Nat} {F' : List Int → Option Bool} (F : FnP K x qual st f fd) (Sc : FnScope N [p] (defScope st)) (hL : ∀ ns : List Int, ns.length ≤ 63 → F' ns = some true)
    (body : ∀ (cdv : Value) (A : Around) (outer : List Env) (s : Shared) (H : Hp) (E : XK), Room k (A.deeper (PyProof.Rows.envOfC qual (defScope st) s.heap.objs.size f cdv)) →
      ∃ t, PSs (cxOf CX0 P w K mg base N qual (defScope st) f cdv A outer s H E).nox (defBody st) t ∧ ∀ H0 As R, sp1 (aE K) (aE K) F' As R → DS C0 H0 (As.map Slot.dat ++ List.replicate (N.length - As.length) Slot.no) t (fun _ => ∀ G, R.p .non G) R) : FnOk P w K mg base CX0 (k + 1) f fd [p] (spL K) := by
  refine lawD_ok F Sc fun cdv A outer s H E hr ns hl => ?_
  obtain ⟨t, q, d⟩ := body cdv A outer s H E hr
  refine ⟨t, q, fun H0 => ?_⟩
  have e := d H0 [aE K ns] (aE K true) ⟨ns, true, rfl, hL ns hl, rfl⟩
  exact ds_imp e fun r z => by cases z (fun _ => none)
end
end Kj

set_option Elab.async false
set_option linter.all false
set_option maxRecDepth 100000
set_option maxHeartbeats 4000000
/-! Kj12: makers, xs[::-1]. -/
namespace Kj
open PySem L2
def revM {α : Type} (xs : List α) : Option (List α) := some xs.reverse
def finI {S R : Type} (m : Option (Fl S R)) : Option S := m.bind fun fl => match fl with | .nx s => some s | _ => none
section
variable {Gw : WK} {H0 : Hp} {ρ ρ' : List Slot} {K : PySem.W.Frag} {f fa fb fc : Bool} {ta tb tc te : TE} {α β γ δ S S1 R : Type} {A : R → Abs} {B : S → List Slot} {t u w : TS}
end
/-! the written part by its own name (in a comprehension) -/
section
variable {X : Cx} {K : PySem.W.Frag}
theorem ix_listK (h : X.K = K) : IxR X (rIxL K) := by subst h; exact ix_list
theorem sl_listK (h : X.K = K) : SlR X (rSlL K) := by subst h; exact sl_list
theorem op_catK (h : X.K = K) : OpR X (binaryOp .Add) (rCatS K) := by subst h; exact op_catS
theorem op_eqPK (h : X.K = K) (hu : X.A.units + 64 < cLine) : OpR X (compareOp .Eq) (rEqP K) := by subst h; exact op_eqP hu
theorem op_nePK (h : X.K = K) (hu : X.A.units + 64 < cLine) : OpR X (compareOp .NotEq) (rNeP K) := by subst h; exact op_neP hu
theorem call_lenK (h : X.K = K) : CallR X (.builtin "len") (fun xs H Q => ∃ x n, xs = [x] ∧ LenV K x H n ∧ Q (.int n) H) := by subst h; exact call_len
theorem call_listK (h : X.K = K) : CallR X (.type "list") (fun xs H Q => ∃ p ys, xs = [.ref p] ∧ (SqL K H p ys ∨ SqT K H p ys) ∧ ∀ l, H l = none → Q (.ref l) (upd H l (.lst ys))) := by subst h; exact call_list_of
theorem call_isiK (h : X.K = K) : CallR X (.builtin "isinstance") (rIsi K) := by subst h; exact call_isi
theorem cr_allK (h : X.K = K) (hc : X.calm = true) : CallR X (.builtin "all") (rAll K) := by subst h; exact cr_all hc
variable {e e2 tg : Expr} {te : TE} {ta : TA} {p pos apos tpos : Pos} {elts : List Expr} {kk : Nat} {o : Expr} {to : TE}
theorem pi_listK (h : X.K = K) (hl : PE X e te) : PI X tg e (iList K te) := by subst h; exact pi_list hl
theorem pi_enumK (h : X.K = K) (hg : Gl X "enumerate") (hm : X.mg "enumerate" = none) (ha : PA X [e] ta) (hs : starEach [e] X.env = [(false, eval e X.env)] := by rfl) :
    PI X (.Tuple elts kk tpos) (.Call (.Name "enumerate" p) [e] [] pos) (iEnum K ta) := by subst h; exact pi_enum hg hm ha hs
theorem pe_joinK (h : X.K = K) (ho : PE X o to) (he : PE X e te) (hs : starEach [e] X.env = [(false, eval e X.env)] := by rfl) (hbase : attributeBase o "join" X.env (eval o X.env) = eval o X.env := by rfl) (hline : (apos.endLine == pos.line) = true := by rfl) :
    PE X (.Call (.Attribute o "join" apos) [e] [] pos) (tM1 (fun x xs H Q => ∃ a p, ∃ ys : List Str, x = .str a ∧ xs = [.ref p] ∧ (SqL K H p (ys.map V.str) ∨ SqT K H p (ys.map V.str)) ∧
      (ys.map (·.length)).sum + ys.length * a.length ≤ 16777216 ∧ Q (.str (Txt.join a ys)) H) to te) := by subst h; exact pe_join ho he hs hbase hline
end
end Kj

set_option Elab.async false
set_option linter.all false
set_option maxRecDepth 100000
set_option maxHeartbeats 4000000
/-! Kj13: two data alike to the kind. -/
namespace Kj
open PySem L2
open Classical in
noncomputable def sameB (d e : PyData) : Bool := decide (d = e)
theorem sameB_true {d e : PyData} : sameB d e = true ↔ d = e := by unfold sameB; exact @decide_eq_true_iff _ (Classical.propDecidable _)
theorem sameB_false {d e : PyData} (h : d ≠ e) : sameB d e = false := by unfold sameB; exact @decide_eq_false _ (Classical.propDecidable _) h
theorem sameB_self (d : PyData) : sameB d d = true := sameB_true.mpr rfl
mutual
/-- no list or tuple within is too long -/
def small : PyData → Bool
  | .list xs => decide (xs.length ≤ 100000) && smallAll xs
  | .tuple xs => decide (xs.length ≤ 100000) && smallAll xs
  | _ => true
def smallAll : List PyData → Bool
  | [] => true
  | x :: xs => small x && smallAll xs
end
theorem smallAll_iff : ∀ xs : List PyData, smallAll xs = true ↔ ∀ x ∈ xs, small x = true
  | [] => by simp [smallAll]
  | x :: xs => by simp [smallAll, smallAll_iff xs]
theorem small_get {ds : List PyData} (h : smallAll ds = true) (i : Nat) : small (ds.getD i .none) = true := by
  rw [List.getD_eq_getElem?_getD]
  cases e : ds[i]? with
  | none => simp [small]
  | some d => exact (smallAll_iff ds).mp h d (List.mem_of_getElem? e)
def S_same (K : PySem.W.Frag) (n : Nat) : Spec := fun As R => ∃ d e : PyData, As = [aD K d, aD K e] ∧ d.plain = true ∧ e.plain = true ∧ d.depth < n ∧ e.depth < n ∧ small e = true ∧ R = aD K (.bool (sameB d e))
theorem fnOk_no {P : Program} {w : World} {K : PySem.W.Frag} {mg : Str → Option Value} {base : Heap} {k : Nat} {f : Addr} {fd : FuncData} {ps : List Str} {S : Spec} (h : ∀ As R, ¬ S As R) : FnOk P w K mg base CX0 k f fd ps (spF S) :=
  ⟨fun vs H Q E hs => by obtain ⟨As, R, z, _⟩ := hs; exact (h _ _ z).elim, fun A outer s H args us vs Q E hr he hb hv hs => by obtain ⟨As, R, z, _⟩ := hs; exact (h _ _ z).elim⟩
def isLi : PyData → Bool | .list _ => true | _ => false
def isTu : PyData → Bool | .tuple _ => true | _ => false
def isBo : PyData → Bool | .bool _ => true | _ => false
def isSt : PyData → Bool | .str _ => true | _ => false
def isIn : PyData → Bool | .bool _ => true | .int _ => true | _ => false
section
variable {d : PyData} (h : d.plain = true)
include h
theorem kit_li : kitB (tyN d) "list" = some (isLi d) := by cases d <;> first | rfl | cases h
theorem kit_tu : kitB (tyN d) "tuple" = some (isTu d) := by cases d <;> first | rfl | cases h
theorem kit_bo : kitB (tyN d) "bool" = some (isBo d) := by cases d <;> first | rfl | cases h
theorem kit_st : kitB (tyN d) "str" = some (isSt d) := by cases d <;> first | rfl | cases h
theorem kit_in : kitB (tyN d) "int" = some (isIn d) := by cases d <;> first | rfl | cases h
end
section
variable {H0 : Hp} {ρ : List Slot} {K : PySem.W.Frag} {f fa fb : Bool} {ta tb te : TE}
theorem dw_zipA {ds es : List PyData} {b : Bool} (h : DE H0 ρ ta f (aD K (if b then .list ds else .tuple ds))) (h' : DE H0 ρ tb f (aD K (if b then .list es else .tuple es))) : DW H0 ρ (RZ.iZipA K (tCons ta (tCons tb tNil))) (min ds.length es.length) f (fun i => aD K (.tuple [ds.getD i .none, es.getD i .none])) := fun σ H Hr R E k => by
  refine h σ H Hr _ E fun v H1 Hr1 x1 a1 => h' σ H1 Hr1 _ (E.ext x1) fun v2 H2 Hr2 x2 a2 => ?_
  cases b with
  | true =>
    have dz := dw_zip (H0 := H0) (ρ := ρ) (f := f) (K := K) (ta := fun _ H Q => Q v H) (tb := fun _ H Q => Q v2 H) (ds := ds) (es := es)
    rw [if_pos rfl] at a1 a2
    cases a1 with
    | @lst a xs _ hq hA =>
      cases a2 with
      | @lst b ys _ hq2 hB =>
        have hA2 := dpa_mono (hp_mono f H0 x2.r) _ _ hA
        refine ⟨a, b, xs, ys, rfl, .inl ⟨((hp_sub f).trans (x2.r.trans x2.s)).seq hq, ((hp_sub f).trans x2.s).seq hq2, k _ H2 Hr2 (x1.trans x2) fun G Gr s1 s2 s3 => ?_⟩⟩
        have q1 : SqL K G a xs := ((hp_sub f).trans (x2.r.trans (s1.trans s2))).seq hq
        have q2 : SqL K G b ys := ((hp_sub f).trans (s1.trans s2)).seq hq2
        have l1 := dpa_len hA
        have l2 := dpa_len hB
        refine ⟨fun i hi => ⟨⟨xs, ys, xs[i]'(by omega), ys[i]'(by omega), q1, q2, List.getElem?_eq_getElem _, List.getElem?_eq_getElem _⟩, ?_⟩, ⟨xs, ys, q1, q2, by omega⟩⟩
        rintro v G' ⟨T, x, y, rfl, hT, rfl, hx, hy⟩
        obtain ⟨d, e1, e2⟩ := dpa_get hA2 (hx xs q1)
        obtain ⟨e, e3, e4⟩ := dpa_get hB (hy ys q2)
        have xt : Ext G Gr (upd G T (.tup [x, y])) (upd Gr T (.tup [x, y])) := Ext.lay s2 hT
        refine ⟨_, xt, ?_⟩
        show Dp K _ (.ref T) (.tuple [ds.getD i .none, es.getD i .none])
        rw [List.getD_eq_getElem?_getD, List.getD_eq_getElem?_getD, e1, e3]
        refine .tup (SqT.of (hp_lay f s3 hT)) (.cons (dp_mono (hp_mono f H0 (s1.trans xt.r)) _ _ e2) (.cons (dp_mono (hp_mono f H0 (s1.trans xt.r)) _ _ e4) .nil))
  | false =>
    rw [if_neg Bool.false_ne_true] at a1 a2
    cases a1 with
    | @tup a xs _ hq hA =>
      cases a2 with
      | @tup b ys _ hq2 hB =>
        have hA2 := dpa_mono (hp_mono f H0 x2.r) _ _ hA
        refine ⟨a, b, xs, ys, rfl, .inr ⟨seqT ((hp_sub f).trans (x2.r.trans x2.s)) hq, seqT ((hp_sub f).trans x2.s) hq2, k _ H2 Hr2 (x1.trans x2) fun G Gr s1 s2 s3 => ?_⟩⟩
        have q1 : SqT K G a xs := seqT ((hp_sub f).trans (x2.r.trans (s1.trans s2))) hq
        have q2 : SqT K G b ys := seqT ((hp_sub f).trans (s1.trans s2)) hq2
        have l1 := dpa_len hA
        have l2 := dpa_len hB
        refine ⟨fun i hi => ⟨⟨xs, ys, xs[i]'(by omega), ys[i]'(by omega), q1, q2, List.getElem?_eq_getElem _, List.getElem?_eq_getElem _⟩, ?_⟩, ⟨xs, ys, q1, q2, by omega⟩⟩
        rintro v G' ⟨T, x, y, rfl, hT, rfl, hx, hy⟩
        obtain ⟨d, e1, e2⟩ := dpa_get hA2 (hx xs q1)
        obtain ⟨e, e3, e4⟩ := dpa_get hB (hy ys q2)
        have xt : Ext G Gr (upd G T (.tup [x, y])) (upd Gr T (.tup [x, y])) := Ext.lay s2 hT
        refine ⟨_, xt, ?_⟩
        show Dp K _ (.ref T) (.tuple [ds.getD i .none, es.getD i .none])
        rw [List.getD_eq_getElem?_getD, List.getD_eq_getElem?_getD, e1, e3]
        refine .tup (SqT.of (hp_lay f s3 hT)) (.cons (dp_mono (hp_mono f H0 (s1.trans xt.r)) _ _ e2) (.cons (dp_mono (hp_mono f H0 (s1.trans xt.r)) _ _ e4) .nil))
end
theorem all_same : ∀ ds es : List PyData, ds.length = es.length → ((List.range (min ds.length es.length)).map fun i => sameB (ds.getD i .none) (es.getD i .none)).all id = decide (sameB (.list ds) (.list es) = true) := fun ds es hl => by
  rw [Bool.eq_iff_iff, List.all_eq_true, decide_eq_true_iff, sameB_true]
  constructor
  · intro h
    congr 1
    apply List.ext_getElem hl
    intro i h1 h2
    have := h (sameB (ds.getD i .none) (es.getD i .none)) (List.mem_map.mpr ⟨i, List.mem_range.mpr (by omega), rfl⟩)
    rw [id, sameB_true, List.getD_eq_getElem?_getD, List.getD_eq_getElem?_getD, List.getElem?_eq_getElem h1, List.getElem?_eq_getElem h2] at this
    exact this
  · intro h b hb
    obtain ⟨i, _, rfl⟩ := List.mem_map.mp hb
    cases h
    exact sameB_self _
def sameM {α : Type} [Enc α] [DecidableEq α] (x y : α) : Option Bool := if small (en y) = true then some (decide (x = y)) else none
theorem en_inj {α : Type} [Enc α] {x y : α} (h : en x = en y) : x = y := by
  refine (Enc.eqv x y).mp ?_
  rw [show Enc.enc x = Enc.enc y from h]
  exact (Enc.eqv y y).mpr rfl
theorem sameB_en {α : Type} [Enc α] [DecidableEq α] (x y : α) : sameB (en x) (en y) = decide (x = y) := by
  by_cases h : x = y
  · subst h; rw [sameB_self, decide_eq_true rfl]
  · rw [sameB_false fun z => h (en_inj z), decide_eq_false h]
theorem dm_same {H0 : Hp} {ρ ρ' : List Slot} {K : PySem.W.Frag} {fa fb : Bool} {ta tb : TE} {α : Type} {Ex : XK} [Enc α] [DecidableEq α] {ma mb : Option α} (bo : Bo H0 ρ ρ') (h1 : DM H0 ρ' ta fa (aE K) ma) (h2 : DM H0 ρ' tb fb (aE K) mb) (hd : Enc.dep α < 9 := by decide) :
    DM H0 ρ (tCall (spF (S_same K 9)) [] Ex (tCons ta (tCons tb tNil))) true (aE K) (b2 sameM ma mb) := fun x e => by
  obtain ⟨a, b, e1, e2, h⟩ := b2_some e
  unfold sameM at h
  split at h
  · rename_i hs
    cases h
    refine de_call bo (da_cons (h1 _ e1) (da_cons (h2 _ e2) da_nil)) ⟨_, _, rfl, Enc.plain a, Enc.plain b, Nat.lt_of_le_of_lt (dep_en a) hd, Nat.lt_of_le_of_lt (dep_en b) hd, hs, ?_⟩
    rw [sameB_en]; rfl
  · cases h
theorem plain_get {ds : List PyData} (h : PyData.plainAll ds = true) (i : Nat) : (ds.getD i .none).plain = true := by
  induction ds generalizing i with
  | nil => simp [PyData.plain]
  | cons d ds ih =>
    simp only [PyData.plainAll, Bool.and_eq_true] at h
    cases i with
    | zero => exact h.1
    | succ i => exact ih h.2 i
theorem depth_get {ds : List PyData} (i : Nat) : (ds.getD i .none).depth ≤ PyData.depthAll ds := by
  induction ds generalizing i with
  | nil => simp [PyData.depth]
  | cons d ds ih =>
    simp only [PyData.depthAll]
    cases i with
    | zero => exact Nat.le_max_left _ _
    | succ i => exact Nat.le_trans (ih i) (Nat.le_max_right _ _)
end Kj

set_option Elab.async false
set_option linter.all false
set_option maxRecDepth 100000
set_option maxHeartbeats 4000000
namespace Kj
open PySem L2
theorem call_isiTK {X : Cx} {K : PySem.W.Frag} (h : X.K = K) : CallR X (.builtin "isinstance") (rIsiT K) := by subst h; exact call_isiT
theorem pi_zipAK {X : Cx} {K : PySem.W.Frag} {e e2 : Expr} {ta : TA} {p pos tpos : Pos} {elts : List Expr} {kk : Nat} (h : X.K = K) (hg : Gl X "zip") (hm : X.mg "zip" = none) (ha : PA X [e, e2] ta)
    (hs : starEach [e, e2] X.env = (false, eval e X.env) :: starEach [e2] X.env := by rfl) (hpl : (backTo pos (starEach [e2] X.env)).any (·.1) = false := by rfl) :
    PI X (.Tuple elts kk tpos) (.Call (.Name "zip" p) [e, e2] [] pos) (RZ.iZipA K ta) := by subst h; exact RZ.pi_zipA hg hm ha hs hpl
abbrev tIsi (K : PySem.W.Frag) (i : Nat) (T : String) : TE := tCB (rIsi K) (tCons (tVar i) (tCons (tC (.ty T)) tNil))
abbrev tLen0 (K : PySem.W.Frag) (i : Nat) : TE := tCB (fun xs H Q => ∃ x n, xs = [x] ∧ LenV K x H n ∧ Q (.int n) H) (tCons (tVar i) tNil)
abbrev tSameB (K : PySem.W.Frag) (n : Nat) : TS :=
  tSeq (tIfS (tB (tIsN (tVar 1))) (tSeq (tRet (tIsN (tVar 0))) tNext) tNext)
  (tSeq (tIfS (tB (tCB (rIsiT K) (tCons (tVar 1) (tCons (tTup (tCons (tC (.ty "list")) (tCons (tC (.ty "tuple")) tNil))) tNil))))
    (tSeq (tIfS (tOr (tTest (tOp rNe (tIsi K 0 "list") (tIsi K 1 "list"))) (tTest (tOp rNe (tIsi K 0 "tuple") (tIsi K 1 "tuple")))) (tSeq (tRet (tC (.bl false))) tNext) tNext)
    (tSeq (tRet (tAndV (tOp rEq (tLen0 K 0) (tLen0 K 1)) (tCB (rAll K) (tCons (tLc (RZ.iZipA K (tCons (tVar 0) (tCons (tVar 1) tNil))) (gTup K 2 (gCons (gName 2) (gCons (gName 3) gNil))) tYes (tCall (spF (S_same K n)) [] E0 (tCons (tVar 2) (tCons (tVar 3) tNil))) [2, 3]) tNil)))) tNext)) tNext)
  (tSeq (tIfS (tOr (tTest (tOp rNe (tIsi K 0 "bool") (tIsi K 1 "bool"))) (tTest (tOp rNe (tIsi K 0 "str") (tIsi K 1 "str")))) (tSeq (tRet (tC (.bl false))) tNext) tNext)
  (tSeq (tRet (tAndV (tOp rEq (tIsi K 0 "int") (tIsi K 1 "int")) (tOp rEq (tVar 0) (tVar 1)))) tNext)))
section
variable {H0 : Hp} {ρ : List Slot} {K : PySem.W.Frag}
theorem ds_cut {N N' : List Slot → Prop} {R : Abs} {t u : TS} (h : DS C0 H0 ρ t (fun _ => False) R) : DS C0 H0 ρ (tSeq t u) N R := ds_seq h fun _ z => z.elim
theorem de_eqSc {d e : PyData} {ta tb : TE} {fa fb : Bool} (ha : DE H0 ρ ta fa (aD K d)) (hb : DE H0 ρ tb fb (aD K e)) (hk : (∃ i j, d = .int i ∧ e = .int j) ∨ (∃ i j, d = .bool i ∧ e = .bool j) ∨ (∃ i j, d = .str i ∧ e = .str j)) : DE H0 ρ (tOp rEq ta tb) true (aD K (.bool (sameB d e))) := by
  rcases hk with ⟨i, j, rfl, rfl⟩ | ⟨i, j, rfl, rfl⟩ | ⟨i, j, rfl, rfl⟩
  · exact de_eq (de_eqI ha hb) (congrArg PyData.bool (sameB_en i j).symm)
  · exact de_eq (de_eqB ha hb) (congrArg PyData.bool (sameB_en i j).symm)
  · exact de_eq (de_eqS ha hb) (congrArg PyData.bool (sameB_en i j).symm)
theorem same_ds {n : Nat} {d e : PyData} (p1 : d.plain = true) (p2 : e.plain = true) (d1 : d.depth < n + 1) (d2 : e.depth < n + 1) (sm : small e = true) :
    DS C0 H0 ([aD K d, aD K e].map Slot.dat ++ List.replicate 2 Slot.no) (tSameB K n) (fun _ => False) (aD K (.bool (sameB d e))) := by
  have v0 : DE H0 ([aD K d, aD K e].map Slot.dat ++ List.replicate 2 Slot.no) (tVar 0) false (aD K d) := de_var rfl
  have v1 : DE H0 ([aD K d, aD K e].map Slot.dat ++ List.replicate 2 Slot.no) (tVar 1) false (aD K e) := de_var rfl
  refine ds_ifs (K := K) (a := isNn e) (dt_B (de_isN2 v1)) (fun h => ?_) (fun h => ds_skip ?_)
  · have he : e = .none := by cases e <;> first | rfl | cases h
    subst he
    refine ds_cut (N' := fun _ => False) (ds_rets (de_isN2 v0) fun v G z => ?_)
    have : isNn d = sameB d .none := by
      cases d with
      | none => exact (sameB_self _).symm
      | _ => exact (sameB_false (by intro z; cases z)).symm
    rw [← this]; exact z
  refine ds_ifs (K := K) (a := isLi e || isTu e) (dt_B (fa := true) (de_isi2 (f := true) v1 (kit_li p2) (kit_tu p2))) (fun h2 => ?_) (fun h2 => ds_skip ?_)
  · refine ds_cut (N' := fun _ => False) ?_
    have t1 : DT K H0 ([aD K d, aD K e].map Slot.dat ++ List.replicate 2 Slot.no) (tOr (tTest (tOp rNe (tIsi K 0 "list") (tIsi K 1 "list"))) (tTest (tOp rNe (tIsi K 0 "tuple") (tIsi K 1 "tuple")))) ((!decide (isLi d = isLi e)) || (!decide (isTu d = isTu e))) :=
      dt_or (dt_test (fa := true) (de_neB (fa := true) (fb := true) (de_isi v0 (kit_li p1)) (de_isi v1 (kit_li p2)))) fun _ => dt_test (fa := true) (de_neB (fa := true) (fb := true) (de_isi v0 (kit_tu p1)) (de_isi v1 (kit_tu p2)))
    refine ds_ifs t1 (fun h3 => ?_) (fun h3 => ds_skip ?_)
    · refine ds_cut (N' := fun _ => False) (ds_rets (A := aD K (.bool false)) de_bl fun v G z => ?_)
      have : sameB d e = false := sameB_false fun z => by subst z; simp at h3
      rw [this]; exact z
    · have hk : ∃ (b : Bool) (ds es : List PyData), d = (if b then .list ds else .tuple ds) ∧ e = (if b then .list es else .tuple es) := by
        cases e with
        | list es => cases d with
          | list ds => exact ⟨true, ds, es, rfl, rfl⟩
          | _ => simp [isLi, isTu] at h3
        | tuple es => cases d with
          | tuple ds => exact ⟨false, ds, es, rfl, rfl⟩
          | _ => simp [isLi, isTu] at h3
        | _ => simp [isLi, isTu] at h2
      obtain ⟨b, ds, es, rfl, rfl⟩ := hk
      have q1 : PyData.plainAll ds = true := by cases b <;> simpa [PyData.plain] using p1
      have q2 : PyData.plainAll es = true := by cases b <;> simpa [PyData.plain] using p2
      have g1 : PyData.depthAll ds < n := by cases b <;> simp [PyData.depth] at d1 <;> omega
      have g2 : PyData.depthAll es < n := by cases b <;> simp [PyData.depth] at d2 <;> omega
      have hm : es.length ≤ 100000 ∧ smallAll es = true := by cases b <;> simpa [small] using sm
      have l0 := de_len (f := true) v0 (n := ds.length) (by cases b <;> rfl)
      have l1 := de_len (f := true) v1 (n := es.length) (by cases b <;> rfl)
      have key : sameB (if b then PyData.list ds else PyData.tuple ds) (if b then PyData.list es else PyData.tuple es) = (decide ((ds.length : Int) = (es.length : Int)) && sameB (.list ds) (.list es)) := by
        rw [Bool.eq_iff_iff, Bool.and_eq_true, sameB_true, sameB_true, decide_eq_true_iff]
        cases b
        · rw [if_neg Bool.false_ne_true, if_neg Bool.false_ne_true]
          constructor
          · intro z; cases z; exact ⟨rfl, rfl⟩
          · rintro ⟨_, z⟩; cases z; rfl
        · rw [if_pos rfl, if_pos rfl]
          constructor
          · intro z; cases z; exact ⟨rfl, rfl⟩
          · rintro ⟨_, z⟩; exact z
      refine ds_rets (A := aD K (.bool (decide ((ds.length : Int) = (es.length : Int)) && sameB (.list ds) (.list es)))) (de_and (fa := true) (fb := true) (de_eqI (fa := true) (fb := true) l0 l1) fun hl => ?_) fun v G z => by rw [key]; exact z
      have hl' : ds.length = es.length := by have := of_decide_eq_true hl; omega
      have lc := de_lc2 (H0 := H0) (K := K) (te := tCall (spF (S_same K n)) [] E0 (tCons (tVar 2) (tCons (tVar 3) tNil))) (f := true) (vs := [2, 3]) (tt := tYes) (g := gTup K 2 (gCons (gName 2) (gCons (gName 3) gNil)))
        (dw_zipA (b := b) (ds := ds) (es := es) v0 v1) rfl (by omega) (fun i => some (.bool (sameB (ds.getD i .none) (es.getD i .none)))) fun k hk => ⟨_, dg_pair rfl rfl rfl rfl, dt_yes, fun dd hdd => by
          cases hdd
          exact de_call bo_refl (da_cons (fa := false) (de_var rfl) (da_cons (fa := false) (de_var rfl) da_nil)) ⟨_, _, rfl, plain_get q1 k, plain_get q2 k, Nat.lt_of_le_of_lt (depth_get k) g1, Nat.lt_of_le_of_lt (depth_get k) g2, small_get hm.2 k, rfl⟩⟩
      rw [made_all] at lc
      have hb := all_same ds es hl'
      have lc2 := de_all (f := true) (bs := (List.range (min ds.length es.length)).map fun i => sameB (ds.getD i .none) (es.getD i .none)) (te := tLc (RZ.iZipA K (tCons (tVar 0) (tCons (tVar 1) tNil))) (gTup K 2 (gCons (gName 2) (gCons (gName 3) gNil))) tYes (tCall (spF (S_same K n)) [] E0 (tCons (tVar 2) (tCons (tVar 3) tNil))) [2, 3]) (de_eq lc (by rw [List.map_map]; rfl))
      rw [hb] at lc2
      exact de_eq lc2 (by rw [Bool.decide_eq_true])
  · have t1 : DT K H0 ([aD K d, aD K e].map Slot.dat ++ List.replicate 2 Slot.no) (tOr (tTest (tOp rNe (tIsi K 0 "bool") (tIsi K 1 "bool"))) (tTest (tOp rNe (tIsi K 0 "str") (tIsi K 1 "str")))) ((!decide (isBo d = isBo e)) || (!decide (isSt d = isSt e))) :=
      dt_or (dt_test (fa := true) (de_neB (fa := true) (fb := true) (de_isi v0 (kit_bo p1)) (de_isi v1 (kit_bo p2)))) fun _ => dt_test (fa := true) (de_neB (fa := true) (fb := true) (de_isi v0 (kit_st p1)) (de_isi v1 (kit_st p2)))
    refine ds_ifs t1 (fun h3 => ?_) (fun h3 => ds_skip ?_)
    · refine ds_cut (N' := fun _ => False) (ds_rets (A := aD K (.bool false)) de_bl fun v G z => ?_)
      have : sameB d e = false := sameB_false fun z => by subst z; simp at h3
      rw [this]; exact z
    · refine ds_rets (A := aD K (.bool (decide (isIn d = isIn e) && sameB d e))) (de_and (fa := true) (fb := true) (de_eqB (fa := true) (fb := true) (de_isi v0 (kit_in p1)) (de_isi v1 (kit_in p2))) fun hl => ?_) fun v G z => ?_
      · refine de_eqSc v0 v1 ?_
        cases e with
        | none => simp [isNn] at h
        | bool j => cases d with
          | bool i => exact .inr (.inl ⟨i, j, rfl, rfl⟩)
          | _ => simp [isBo] at h3
        | int j => cases d with
          | int i => exact .inl ⟨i, j, rfl, rfl⟩
          | bool i => simp [isBo] at h3
          | _ => simp [isIn] at hl
        | str j => cases d with
          | str i => exact .inr (.inr ⟨i, j, rfl, rfl⟩)
          | _ => simp [isSt] at h3
        | list _ => simp [isLi] at h2
        | tuple _ => simp [isTu] at h2
        | dict _ => cases p2
      · have : sameB d e = (decide (isIn d = isIn e) && sameB d e) := by
          by_cases z : d = e
          · subst z; simp
          · rw [sameB_false z, Bool.and_false]
        rw [this]; exact z
end
end Kj

set_option Elab.async false
set_option linter.all false
set_option maxRecDepth 100000
set_option maxHeartbeats 4000000
/-! Kj15: sorted(set(xs)) of ints; sorted(xs). -/
namespace Kj
open PySem PySem.Spec PyProof.Rows L2
abbrev setO0 (w : World) : Obj := { cls := .type "set", dict := none, data := .set #[] 0 (.fresh 0 0 (!w.params.followText "set-order")) }
section
variable {P : Program} {w : World} {A : Around} {E : Value → Shared → Prop} {s : Shared}
end
def tSortSet (K : PySem.W.Frag) (ta : TE) : TE := fun σ H Q => ta σ H fun x H1 => ∃ (l : Addr) (ns : List Int), x = V.ref l ∧ SqL K H1 l (ns.map V.int) ∧ ns.length < 64 ∧
  ∀ (ks : List Int) (p : Addr), ks.Pairwise (· < ·) → (∀ k : Int, k ∈ ks ↔ k ∈ ns) → H1 p = none → Q (.ref p) (upd H1 p (.lst (ks.map V.int)))
/-- the members of ns, each once, rising -/
def insI (k : Int) : List Int → List Int
  | [] => [k]
  | x :: xs => if k < x then k :: x :: xs else if k = x then x :: xs else x :: insI k xs
def srtI : List Int → List Int
  | [] => []
  | k :: ks => insI k (srtI ks)
theorem mem_insI {k j : Int} : ∀ {xs : List Int}, j ∈ insI k xs ↔ j = k ∨ j ∈ xs
  | [] => by simp [insI]
  | x :: xs => by
    unfold insI
    split
    · simp
    · split
      · rename_i h; subst h; simp
      · simp [mem_insI (xs := xs)]
        constructor
        · rintro (h | h | h) <;> simp [h]
        · rintro (h | h | h) <;> simp [h]
theorem mem_srtI {j : Int} : ∀ {xs : List Int}, j ∈ srtI xs ↔ j ∈ xs
  | [] => by simp [srtI]
  | x :: xs => by simp [srtI, mem_insI, mem_srtI (xs := xs)]
theorem insI_pw {k : Int} : ∀ {xs : List Int}, xs.Pairwise (· < ·) → (insI k xs).Pairwise (· < ·)
  | [], _ => by simp [insI]
  | x :: xs, h => by
    unfold insI
    have h' := List.pairwise_cons.mp h
    split
    · rename_i hk
      refine List.pairwise_cons.mpr ⟨fun y hy => ?_, h⟩
      rcases List.mem_cons.mp hy with e | e
      · subst e; exact hk
      · exact Int.lt_trans hk (h'.1 y e)
    · split
      · exact h
      · rename_i h1 h2
        refine List.pairwise_cons.mpr ⟨fun y hy => ?_, insI_pw h'.2⟩
        rcases mem_insI.mp hy with e | e
        · subst e; omega
        · exact h'.1 y e
theorem srtI_pw : ∀ xs : List Int, (srtI xs).Pairwise (· < ·)
  | [] => by simp [srtI]
  | x :: xs => insI_pw (srtI_pw xs)
/-- rising lists with the same members are the same -/
theorem pw_unique : ∀ {xs ys : List Int}, xs.Pairwise (· < ·) → ys.Pairwise (· < ·) → (∀ k, k ∈ xs ↔ k ∈ ys) → xs = ys
  | [], [], _, _, _ => rfl
  | [], y :: ys, _, _, h => by have := (h y).mpr (by simp); cases this
  | x :: xs, [], _, _, h => by have := (h x).mp (by simp); cases this
  | x :: xs, y :: ys, h1, h2, h => by
    have a1 := List.pairwise_cons.mp h1
    have a2 := List.pairwise_cons.mp h2
    have e : x = y := by
      rcases List.mem_cons.mp ((h x).mp (by simp)) with e | e
      · exact e
      · rcases List.mem_cons.mp ((h y).mpr (by simp)) with e' | e'
        · exact e'.symm
        · have := a1.1 y e'; have := a2.1 x e; omega
    subst e
    congr 1
    refine pw_unique a1.2 a2.2 fun k => ?_
    have hk := h k
    simp only [List.mem_cons] at hk
    constructor
    · intro z
      rcases hk.mp (.inr z) with e | e
      · subst e; have := a1.1 k z; omega
      · exact e
    · intro z
      rcases hk.mpr (.inr z) with e | e
      · subst e; have := a2.1 k z; omega
      · exact e
def sortedSetM (ns : List Int) : Option (List Int) := if ns.length < 64 then some (srtI ns) else none
end Kj

set_option Elab.async false
set_option linter.all false
set_option maxRecDepth 100000
set_option maxHeartbeats 4000000
/-! Kj16: results that are one's own; pop, remove; list(range), sorted. -/
namespace Kj
open PySem L2
theorem rm_mono {H H' : Hp} (p : Addr) (s : Same H H') : Same (rm H p) (rm H' p) := fun a o h => by
  obtain ⟨h1, h2⟩ := rm_some h
  rw [rm_ne h2]; exact s _ _ h1
/-- a list of its own, all of it new -/
def aO (B : AbsO) : Abs := ⟨fun v H => ∃ p o, v = .ref p ∧ H p = some o ∧ B.p p o (rm H p), fun v H H' s ⟨p, o, e, h, b⟩ => ⟨p, o, e, s _ _ h, B.mono _ _ _ _ (rm_mono p s) b⟩⟩
abbrev aEo {α : Type} [Enc α] (K : PySem.W.Frag) (x : List α) : Abs := aO (oE K x)
def DMo (K : PySem.W.Frag) (H0 : Hp) (ρ : List Slot) (t : TE) {α : Type} [Enc α] (m : Option (List α)) : Prop := ∀ xs, m = some xs → ∀ (σ : St) (H Hr : Hp) (Q : VK), EnvOk H0 σ ρ H Hr →
  (∀ p o H1 Hr1, Ext H Hr H1 Hr1 → H1 p = none → (oE K xs).p p o (mns Hr1 H0) → Q (.ref p) (upd H1 p o)) → t σ H Q
section
variable {Gw : WK} {H0 : Hp} {ρ ρ' : List Slot} {K : PySem.W.Frag} {f fa fb fc g : Bool} {ta tb tc te : TE} {α β γ δ S S1 R : Type} {A : R → Abs} {B : S → List Slot} {t u w : TS}
def rngL (j : Int) : Option (List Int) := if 0 ≤ j ∧ j ≤ 16777216 then some ((List.range j.toNat).map fun n : Nat => (n : Int)) else none
/-! sorted, of ints -/
def insL (k : Int) : List Int → List Int
  | [] => [k]
  | x :: xs => if k ≤ x then k :: x :: xs else x :: insL k xs
def sortL : List Int → List Int
  | [] => []
  | k :: ks => insL k (sortL ks)
def sortedM (ns : List Int) : Option (List Int) := some (sortL ns)
/-! an optional thing, where it is there -/
/-! own results of calls -/
variable {Ex : XK} {Ax : α → Abs} {Bx : β → Abs} {Dx : δ → Abs} {ma : Option α} {mb : Option β} {md : Option δ}
/-! xs.pop(), xs.append(ys.pop(i)), xs.remove(x) -/
def popM {α β : Type} (xs : List α) (k : α → List α → Option β) : Option β := match xs.getLast? with | some x => k x xs.dropLast | none => none
/-- the item at i and the rest -/
def popAtM {α β : Type} (xs : List α) (i : Int) (k : α → List α → Option β) : Option β := if 0 ≤ i ∧ i < xs.length ∧ i < 1000000000 then (match xs[i.toNat]? with | some x => k x (xs.eraseIdx i.toNat) | none => none) else none
end
end Kj

set_option Elab.async false
set_option linter.all false
set_option maxRecDepth 100000
set_option maxHeartbeats 4000000
/-! Kj17: more of one's own lists. -/
namespace Kj
open PySem L2
def remM {β : Type} (xs : List Int) (x : Int) (k : List Int → Option β) : Option β := if x ∈ xs then k (xs.erase x) else none
section
variable {Gw : WK} {H0 : Hp} {ρ ρ' : List Slot} {K : PySem.W.Frag} {f fa fb fc g : Bool} {ta tb tc te : TE} {α β γ δ S S1 R : Type} {A : R → Abs} {B : S → List Slot} {t u w : TS}
end
end Kj
namespace Kj
open PySem L2
section
variable {Gw : WK} {H0 : Hp} {ρ ρ' : List Slot} {K : PySem.W.Frag} {f fa fb fc g : Bool} {ta tb tc te : TE} {α β γ δ S S1 R : Type} {Ex : XK} {Ax : α → Abs} {Bx : β → Abs} {Dx : δ → Abs} {ma : Option α} {mb : Option β} {md : Option δ} {Cl : Addr} {m : Str} {O : α → List (Str × Abs)}
end
end Kj

set_option Elab.async false
set_option linter.all false
set_option maxRecDepth 100000
set_option maxHeartbeats 4000000
/-! Kj18: dicts of texts and numbers, one's own. -/
namespace Kj
open PySem L2
abbrev Ct := List (P2 Str Int)
def ent (p : P2 Str Int) : Key × V := (Sum.inr p.a, V.int p.b)
def cget (d : Ct) (k : Str) : Option Int := (d.find? fun p => decide (p.a = k)).map P2.b
def cput (d : Ct) (k : Str) (v : Int) : Ct := if (d.any fun p => decide (p.a = k)) = true then d.map (fun p => if p.a = k then ⟨p.a, v⟩ else p) else d ++ [⟨k, v⟩]
def oC (d : Ct) : AbsO := ⟨fun _ o _ => o = .dK (d.map ent), fun _ _ _ _ _ h => h⟩
def aFz (od : Obj) (d : Ct) : Abs := ⟨fun v H => ∃ p, v = .ref p ∧ H p = some (.frz od (.dK (d.map ent))), fun v H H' s ⟨p, e, h⟩ => ⟨p, e, s _ _ h⟩⟩
def getC (d : Ct) (k : Str) (z : Int) : Option Int := some ((cget d k).getD z)
def putC {β : Type} (d : Ct) (k : Str) (v : Int) (c : Ct → Option β) : Option β := if d.length < 100000 then c (cput d k v) else none
section
variable {Gw : WK} {H0 : Hp} {ρ ρ' : List Slot} {K : PySem.W.Frag} {f fa fb fc g : Bool} {ta tb tc te : TE} {α β γ δ S S1 R : Type} {A : R → Abs} {B : S → List Slot} {t u w : TS}
/-! under a lock -/
mutual
theorem dp_rmfz {H : Hp} {p : Addr} {od : Obj} {kvs : List (Key × V)} (h : H p = some (.frz od (.dK kvs))) : ∀ (d : PyData) (v : V), Dp K H v d → Dp K (rm H p) v d
  | .none, _, q => by cases q; exact .non
  | .bool b, _, q => by cases q; exact .bl b
  | .int i, _, q => by cases q; exact .int i
  | .str x, _, q => by cases q; exact .str x
  | .list ds, _, q => by
    cases q with
    | @lst a xs _ hs ha =>
      refine .lst ?_ (dpa_rmfz h ds _ ha)
      rcases hs with (hs | ⟨o, hs⟩) | hs
      · exact .inl (.inl (by rw [rm_ne (fun z => by rw [z, h] at hs; cases hs)]; exact hs))
      · exact .inl (.inr ⟨o, by rw [rm_ne (fun z => by rw [z, h] at hs; cases hs)]; exact hs⟩)
      · exact .inr hs
  | .tuple ds, _, q => by
    cases q with
    | @tup a xs _ hs ha =>
      refine .tup ?_ (dpa_rmfz h ds _ ha)
      rcases hs with (hs | ⟨o, hs⟩) | hs
      · exact .inl (.inl (by rw [rm_ne (fun z => by rw [z, h] at hs; cases hs)]; exact hs))
      · exact .inl (.inr ⟨o, by rw [rm_ne (fun z => by rw [z, h] at hs; cases hs)]; exact hs⟩)
      · exact .inr hs
  | .dict _, _, q => by cases q
theorem dpa_rmfz {H : Hp} {p : Addr} {od : Obj} {kvs : List (Key × V)} (h : H p = some (.frz od (.dK kvs))) : ∀ (ds : List PyData) (vs : List V), DpAll K H vs ds → DpAll K (rm H p) vs ds
  | [], _, q => by cases q; exact .nil
  | d :: ds, _, q => by
    cases q with
    | cons h1 h2 => exact .cons (dp_rmfz h d _ h1) (dpa_rmfz h ds _ h2)
end
end
end Kj

set_option Elab.async false
set_option linter.all false
set_option maxRecDepth 100000
set_option maxHeartbeats 4000000
namespace Kj
open PySem L2
structure BookT where
  lines : List (List Str)
  deriving DecidableEq
abbrev cBook (K : PySem.W.Frag) : Addr := He.ga K "Book"
abbrev oBook (K : PySem.W.Frag) (b : BookT) : List (Str × Abs) := [("lines", aE K b.lines)]
abbrev aBook (K : PySem.W.Frag) (b : BookT) : Abs := aIns (cBook K) (oBook K b)
def f_law_numbers (v_law_script : (List Int)) (v_law_many : Int) : Option (List Int) := finF (S := Unit) (R := (List Int)) 
  (b1 (fun v_law_row => (b1 (fun v_law_seed => (bindF (S1 := (List Int) × Int) (b1 (fun xs => forF (fun x2 s1 => (b1 (fun v_law_seed => (b1 (fun v_law_rest => (bindF (S1 := (List Int)) (iteM (b2 ltI (some v_law_rest) (some (0 : Int)))
    (b1 (fun x => appM s1.1 x fun v_law_row => (some (Fl.nx v_law_row))) (b2 modI (some x2) (some (9967 : Int))))
    (some (Fl.nx s1.1))) fun s8 => (bindF (S1 := (List Int) × Int) (b1 (fun xs => forF (fun x10 s9 => (bindF (S1 := (List Int) × Int) (iteM (b2 gtI (some s9.2) (some (0 : Int)))
    (b1 (fun x => appM s9.1 x fun v_law_row => (b1 (fun v_law_rest => (some (Fl.nx (v_law_row, v_law_rest))))
    (b2 divI (some s9.2) (some (1013 : Int))))) (b2 modI (some s9.2) (some (1013 : Int))))
    (some (Fl.nx (s9.1, s9.2)))) fun s12 => (some (Fl.nx (s12.1, s12.2))))) xs (s8, v_law_rest)) (b1 rngM (some (60 : Int)))) fun s9 => (some (Fl.nx (s9.1, v_law_seed))))))
    (b2 subI (some x2) (b2 powI (some (10 : Int)) (some (18 : Int))))))
    (b2 modI (b2 addI (b2 addI (b2 mulI (some s1.2) (some (40014 : Int))) (b2 modI (some x2) (some (999983 : Int)))) (some (17 : Int))) (some (2147483563 : Int))))) xs (v_law_row, v_law_seed)) (b3 cutM (some v_law_script) noneM (someM (some (63 : Int))))) fun s1 => (bindF (S1 := (List Int) × Int) (whileF (fun s13 => (b2 ltI (b1 lenL (some s13.1)) (some v_law_many))) (fun s13 => (b1 (fun v_law_seed => (b1 (fun x => appM s13.1 x fun v_law_row => (some (Fl.nx (v_law_row, v_law_seed)))) (b2 modI (b2 divI (some v_law_seed) (some (1019 : Int))) (some (9967 : Int)))))
    (b2 modI (b2 addI (b2 addI (b2 addI (b2 mulI (some s13.2) (some s13.2)) (b2 mulI (some (52774 : Int)) (some s13.2))) (b2 mulI (some (11 : Int)) (b1 lenL (some s13.1)))) (some (3 : Int))) (some (2147483629 : Int))))) fuelN (s1.1, s1.2)) fun s13 => (b1 (fun r => some (Fl.rt r)) (b3 cutM (some s13.1) noneM (someM (some v_law_many)))))))
    (some (41 : Int)))) (some ([] : (List Int))))
def f_law_sound (v_law_number : Int) : Option Str := finF (S := Unit) (R := Str) 
  (b1 (fun v_law_letters => (b1 (fun r => some (Fl.rt r)) (b2 joinM (some ("" : Str)) (b1 (lcM fun x1 => lcE (some true) (b2 ixS (some v_law_letters) (b2 modI (b2 addI (b2 divI (some v_law_number) (some (3 : Int))) (b2 mulI (some x1) (b2 divI (some v_law_number) (some (79 : Int))))) (some (26 : Int))))) (b1 rngM (b2 addI (some (1 : Int)) (b2 modI (some v_law_number) (some (3 : Int)))))))))
    (some ("abcdefghijklmnopqrstuvwxyz" : Str)))
def f_law_pool (v_law_d : (List Int)) : Option (List Str) := finF (S := Unit) (R := (List Str)) 
  (bindF (S1 := Unit) (iteM (b2 eqM (b2 modI (b2 atI (some v_law_d) (some (0 : Int))) (some (3 : Int))) (some (0 : Int)))
    (b1 (fun r => some (Fl.rt r)) (b1 shortM (b2 consM (some ("a" : Str)) (b2 consM (some ("b" : Str)) (b2 consM (some ("ab" : Str)) (b2 consM (some ("ba" : Str)) (b2 consM (some ("aa" : Str)) (b2 consM (some ("bab" : Str)) (some ([] : List Str))))))))))
    (some (Fl.nx ()))) fun s1 => (bindF (S1 := Unit) (iteM (b2 eqM (b2 modI (b2 atI (some v_law_d) (some (0 : Int))) (some (3 : Int))) (some (1 : Int)))
    (b1 (fun r => some (Fl.rt r)) (b1 shortM (b2 consM (some ("ka" : Str)) (b2 consM (some ("ki" : Str)) (b2 consM (some ("k" : Str)) (b2 consM (some ("i" : Str)) (b2 consM (some ("kik" : Str)) (b2 consM (some ("ma" : Str)) (some ([] : List Str))))))))))
    (some (Fl.nx ()))) fun s2 => (b1 (fun r => some (Fl.rt r)) (b1 (lcM fun x3 => lcE (some true) (b1 f_law_sound (b2 atI (some v_law_d) (some x3)))) (b2 rng2M (some (1 : Int)) (some (7 : Int)))))))
def f_law_alike (v_law_one : (List Str)) (v_law_other : (List Str)) : Option Bool := finF (S := Unit) (R := Bool) 
  (b1 (fun v_law_size => (b1 (fun r => some (Fl.rt r)) (b2 eqM (b3 cutM (some v_law_one) noneM (someM (some v_law_size))) (b3 cutM (some v_law_other) noneM (someM (some v_law_size))))))
    (b2 minI (b1 lenL (some v_law_one)) (b1 lenL (some v_law_other))))
def f_law_verse (v_law_verses : (List (List Str))) (v_law_pool_here : (List Str)) (v_law_d : (List Int)) : Option (List Str) := finF (S := Unit) (R := (List Str)) 
  (b1 (fun v_law_line => (bindF (S1 := (List Str)) (iteM (andM (b2 neM (some v_law_verses) (b1 shortM (some ([] : List (List Str))))) (b2 gtI (b2 modI (b2 atI (some v_law_d) (some (0 : Int))) (some (4 : Int))) (some (0 : Int))))
    (b1 (fun v_law_ahead => (b1 (fun v_law_line => (some (Fl.nx v_law_line)))
    (b3 cutM (some v_law_ahead) noneM (someM (b2 modI (b2 divI (b2 atI (some v_law_d) (some (0 : Int))) (some (4 : Int))) (b2 addI (b1 lenL (some v_law_ahead)) (some (1 : Int))))))))
    (b2 atI (some v_law_verses) (b2 modI (b2 atI (some v_law_d) (some (1 : Int))) (b1 lenL (some v_law_verses)))))
    (some (Fl.nx v_law_line))) fun s1 => (b1 (fun v_law_line => (b1 (fun r => some (Fl.rt r)) (b3 cutM (some v_law_line) noneM (someM (some (8 : Int))))))
    (b2 catM (some s1) (b1 (lcM fun x2 => lcE (some true) (b2 atI (some v_law_pool_here) (b2 modI (b2 atI (some v_law_d) (b2 addI (some (3 : Int)) (some x2))) (b1 lenL (some v_law_pool_here))))) (b1 rngM (b2 addI (some (1 : Int)) (b2 modI (b2 atI (some v_law_d) (some (2 : Int))) (some (3 : Int))))))))))
    (b1 shortM (some ([] : List Str))))
def f_law_wide (v_law_d : (List Int)) (v_law_size : Int) : Option (List (List Str)) := finF (S := Unit) (R := (List (List Str))) 
  (b1 (fun v_law_verses => (bindF (S1 := (List (List Str))) (b1 (fun xs => forF (fun x2 s1 => (b1 (fun v_law_at => (b1 (fun v_law_line => (b1 (fun x => appM s1 x fun v_law_verses => (some (Fl.nx v_law_verses))) (b2 catM (some v_law_line) (b3 cutM (b1 shortM (b2 consM (some ("ma" : Str)) (b2 consM (some ("a" : Str)) (b2 consM (some ("bab" : Str)) (b2 consM (some ("a" : Str)) (b2 consM (some ("b" : Str)) (some ([] : List Str)))))))) noneM (someM (b2 modI (b2 addI (b2 atI (some v_law_d) (some (2 : Int))) (b2 mulI (some x2) (b2 atI (some v_law_d) (some (3 : Int))))) (some (6 : Int))))))))
    (b1 shortM (b2 consM (b2 atI (b1 shortM (b2 consM (some ("a" : Str)) (b2 consM (some ("b" : Str)) (b2 consM (some ("ab" : Str)) (b2 consM (some ("ba" : Str)) (some ([] : List Str))))))) (b2 divI (some v_law_at) (some (16 : Int)))) (b2 consM (b2 atI (b1 shortM (b2 consM (some ("a" : Str)) (b2 consM (some ("aa" : Str)) (b2 consM (some ("ba" : Str)) (b2 consM (some ("b" : Str)) (some ([] : List Str))))))) (b2 modI (b2 divI (some v_law_at) (some (4 : Int))) (some (4 : Int)))) (b2 consM (b2 atI (b1 shortM (b2 consM (some ("ka" : Str)) (b2 consM (some ("k" : Str)) (b2 consM (some ("a" : Str)) (b2 consM (some ("ki" : Str)) (some ([] : List Str))))))) (b2 modI (some v_law_at) (some (4 : Int)))) (some ([] : List Str))))))))
    (b2 modI (b2 addI (b2 atI (some v_law_d) (some (0 : Int))) (b2 mulI (some x2) (b2 addI (some (1 : Int)) (b2 mulI (some (2 : Int)) (b2 modI (b2 atI (some v_law_d) (some (1 : Int))) (some (32 : Int))))))) (some (64 : Int))))) xs v_law_verses) (b1 rngM (some v_law_size))) fun s1 => (b1 (fun r => some (Fl.rt r)) (some s1)))) (some ([] : (List (List Str)))))
def f_law_book (v_law_d : (List Int)) (v_law_most : Int) : Option (List (List Str)) := finF (S := Unit) (R := (List (List Str))) 
  (bindF (S1 := Unit) (iteM (b2 eqM (b2 modI (b2 divI (b2 atI (some v_law_d) (some (8 : Int))) (some (5 : Int))) (some (5 : Int))) (some (4 : Int)))
    (b1 (fun r => some (Fl.rt r)) (b2 f_law_wide (b3 cutM (some v_law_d) (someM (some (1 : Int))) (someM (some (5 : Int)))) (b2 addI (some (1 : Int)) (b2 modI (b2 atI (some v_law_d) (some (0 : Int))) (some v_law_most)))))
    (some (Fl.nx ()))) fun s1 => (b1 (fun v_law_pool_here => (b1 (fun v_law_verses => (bindF (S1 := (List (List Str))) (b1 (fun xs => forF (fun x3 s2 => (b1 (fun v_law_line => (bindF (S1 := (List (List Str))) (iteM (b1 allM (b1 (lcM fun x6 => lcE (some true) (notM (b2 f_law_alike (some v_law_line) (some x6)))) (some s2)))
    (b1 (fun x => appM s2 x fun v_law_verses => (some (Fl.nx v_law_verses))) (some v_law_line))
    (some (Fl.nx s2))) fun s7 => (some (Fl.nx s7))))
    (b3 f_law_verse (some s2) (some v_law_pool_here) (b3 cutM (some v_law_d) (someM (b2 addI (some (9 : Int)) (b2 mulI (some (6 : Int)) (some x3)))) (someM (b2 addI (some (15 : Int)) (b2 mulI (some (6 : Int)) (some x3)))))))) xs v_law_verses) (b1 rngM (b2 addI (some (1 : Int)) (b2 modI (b2 atI (some v_law_d) (some (0 : Int))) (some v_law_most))))) fun s2 => (b1 (fun r => some (Fl.rt r)) (some s2)))) (some ([] : (List (List Str))))))
    (b3 cutM (b1 f_law_pool (b3 cutM (some v_law_d) (someM (some (1 : Int))) (someM (some (8 : Int))))) noneM (someM (b2 addI (some (2 : Int)) (b2 modI (b2 atI (some v_law_d) (some (8 : Int))) (some (5 : Int))))))))
def f_law_copy (v_law_rows : (List (List Str))) : Option (List (List Str)) := finF (S := Unit) (R := (List (List Str))) 
  (b1 (fun r => some (Fl.rt r)) (b1 (lcM fun x1 => lcE (some true) (b1 listM (some x1))) (some v_law_rows)))
def f_is_syllable (v_text : Str) : Option Bool := finF (S := Unit) (R := Bool) 
  (b1 (fun r => some (Fl.rt r)) (andM (chM leI leI (some (1 : Int)) (b1 lenS (some v_text)) (some (3 : Int))) (b1 allM (b1 (lcM fun x1 => lcE (some true) (chM leS leS (some ("a" : Str)) (some x1) (some ("z" : Str)))) (b1 strM (some v_text))))))
def f_is_verse (v_syllables : (List Str)) : Option Bool := finF (S := Unit) (R := Bool) 
  (b1 (fun r => some (Fl.rt r)) (andM (chM leI leI (some (1 : Int)) (b1 lenL (some v_syllables)) (some (8 : Int))) (b1 allM (b1 (lcM fun x1 => lcE (some true) (b1 f_is_syllable (some x1))) (some v_syllables)))))
def f_begins (v_one : (List Str)) (v_other : (List Str)) : Option Bool := finF (S := Unit) (R := Bool) 
  (b1 (fun r => some (Fl.rt r)) (b2 eqM (b3 cutM (some v_other) noneM (someM (b1 lenL (some v_one)))) (some v_one)))
def f_check_rows (v_rows : (List (List Str))) : Option Unit := finN (S := Unit) 
  (bindF (S1 := Unit) (iteM (notM (chM leI leI (some (1 : Int)) (b1 lenL (some v_rows)) (some (40 : Int))))
    none
    (some (Fl.nx ()))) fun s1 => (bindF (S1 := Unit) (b1 (fun xs => forF (fun x3 s2 => (bindF (S1 := Unit) (iteM (notM (b1 f_is_verse (some x3.b)))
    none
    (some (Fl.nx ()))) fun s5 => (some (Fl.nx ())))) xs ()) (b1 enumM (some v_rows))) fun s2 => (bindF (S1 := Unit) (b1 (fun xs => forF (fun x7 s6 => (bindF (S1 := Unit) (b1 (fun xs => forF (fun x13 s12 => (bindF (S1 := Unit) (iteM (orM (b2 f_begins (b2 atI (some v_rows) (some x13)) (b2 atI (some v_rows) (some x7))) (b2 f_begins (b2 atI (some v_rows) (some x7)) (b2 atI (some v_rows) (some x13))))
    none
    (some (Fl.nx ()))) fun s15 => (some (Fl.nx ())))) xs ()) (b1 rngM (some x7))) fun s12 => (some (Fl.nx ())))) xs ()) (b1 rngM (b1 lenL (some v_rows)))) fun s6 => (some (Fl.nx ())))))
def f_Book___init__ (v_verses : (List (List Str))) : Option BookT := finI (R := Unit)
  (b1 (fun _ => (b1 (fun y => some (Fl.nx (⟨y⟩ : BookT))) (b1 (lcM fun x1 => lcE (some true) (b1 listM (some x1))) (some v_verses)))) (b1 f_check_rows (some v_verses)))
def f_Book_many (v_self : BookT) : Option Int := finF (S := Unit) (R := Int) 
  (b1 (fun r => some (Fl.rt r)) (b1 lenL ((some v_self).map BookT.lines)))
def f_check_verse (v_book : BookT) (v_number : Int) : Option Unit := finN (S := Unit) 
  (bindF (S1 := Unit) (iteM (notM (chM leI ltI (some (0 : Int)) (some v_number) (b1 f_Book_many (some v_book) )))
    none
    (some (Fl.nx ()))) fun s1 => (some (Fl.nx ())))
def f_Book_verse (v_self : BookT) (v_number : Int) : Option (List Str) := finF (S := Unit) (R := (List Str)) 
  (b1 (fun _ => (b1 (fun r => some (Fl.rt r)) (b1 listM (b2 atI ((some v_self).map BookT.lines) (some v_number))))) (b2 f_check_verse (some v_self) (some v_number)))
def f_law_unread (v_law_many : Int) (v_law_d : (List Int)) : Option (List Int) := finF (S := Unit) (R := (List Int)) 
  (b1 (fun v_law_row => (bindF (S1 := Unit) (iteM (b2 eqM (b2 modI (b2 divI (b2 atI (some v_law_d) (some (0 : Int))) (some (4 : Int))) (some (3 : Int))) (some (1 : Int)))
    (b1 (fun r => some (Fl.rt r)) (b1 revM (some v_law_row)))
    (some (Fl.nx ()))) fun s2 => (bindF (S1 := Unit) (iteM (b2 eqM (b2 modI (b2 divI (b2 atI (some v_law_d) (some (0 : Int))) (some (4 : Int))) (some (3 : Int))) (some (2 : Int)))
    (b1 (fun v_law_at => (b1 (fun r => some (Fl.rt r)) (b2 catM (b2 catM (b3 cutM (some v_law_row) (someM (some v_law_at)) noneM) (b3 cutM (some v_law_row) noneM (someM (some v_law_at)))) (b3 cutM (some v_law_row) noneM (someM (some (2 : Int)))))))
    (b2 modI (b2 divI (b2 atI (some v_law_d) (some (0 : Int))) (some (12 : Int))) (b2 addI (b1 lenL (some v_law_row)) (some (1 : Int)))))
    (some (Fl.nx ()))) fun s3 => (b1 (fun r => some (Fl.rt r)) (some v_law_row)))))
    (b1 (lcM fun x1 => lcE (orM (b2 eqM (b2 modI (b2 atI (some v_law_d) (some (0 : Int))) (some (4 : Int))) (some (0 : Int))) (b2 gtI (b2 modI (b2 atI (some v_law_d) (b2 addI (some (1 : Int)) (some x1))) (some (3 : Int))) (some (0 : Int)))) (some x1)) (b1 rngM (some v_law_many))))
def f_rising (v_book : BookT) (v_numbers : (List Int)) : Option (List Int) := finF (S := Unit) (R := (List Int)) 
  (bindF (S1 := Unit) (b1 (fun xs => forF (fun x2 s1 => (b1 (fun _ => (some (Fl.nx ()))) (b2 f_check_verse (some v_book) (some x2)))) xs ()) (some v_numbers)) fun s1 => (b1 (fun r => some (Fl.rt r)) (b1 sortedSetM (some v_numbers))))
def f_meeting (v_book : BookT) (v_unread : (List Int)) (v_heard : (List Str)) : Option (List Int) := finF (S := Unit) (R := (List Int)) 
  (b1 (fun r => some (Fl.rt r)) (b1 (lcM fun x1 => lcE (b2 f_begins (some v_heard) (b2 f_Book_verse (some v_book) (some x1))) (some x1)) (b2 f_rising (some v_book) (some v_unread))))
def f_shared (v_book : BookT) (v_one : Int) (v_other : Int) : Option Int := finF (S := Unit) (R := Int) 
  (b1 (fun v_size => (bindF (S1 := Int) (b1 (fun xs => forF (fun x2 s1 => (bindF (S1 := Unit) (iteM (b2 neM (some x2.a) (some x2.b))
    (b1 (fun r => some (Fl.rt r)) (some s1))
    (some (Fl.nx ()))) fun s4 => (b1 (fun y => (fun v_size => (some (Fl.nx v_size))) ((fun i j => i + j) s1 y)) (some (1 : Int))))) xs v_size) (b2 zipM (b2 f_Book_verse (some v_book) (some v_one)) (b2 f_Book_verse (some v_book) (some v_other)))) fun s1 => (b1 (fun r => some (Fl.rt r)) (some s1))))
    (some (0 : Int)))
def f_rivals (v_book : BookT) (v_unread : (List Int)) (v_verse : Int) (v_size : Int) : Option (List Int) := finF (S := Unit) (R := (List Int)) 
  (b1 (fun _ => (b1 (fun v_others => (b1 (fun r => some (Fl.rt r)) (b1 (lcM fun x2 => lcE (b2 geI (b3 f_shared (some v_book) (some v_verse) (some x2)) (some v_size)) (some x2)) (some v_others))))
    (b1 (lcM fun x1 => lcE (b2 neM (some x1) (some v_verse)) (some x1)) (b2 f_rising (some v_book) (some v_unread))))) (b2 f_check_verse (some v_book) (some v_verse)))
def f_deciding (v_book : BookT) (v_unread : (List Int)) (v_verse : Int) : Option (List Str) := finF (S := Unit) (R := (List Str)) 
  (b1 (fun v_size => (bindF (S1 := Int) (whileF (fun s1 => ((b4 f_rivals (some v_book) (some v_unread) (some v_verse) (some s1)).map fun xs => !xs.isEmpty)) (fun s1 => (b1 (fun y => (fun v_size => (some (Fl.nx v_size))) ((fun i j => i + j) s1 y)) (some (1 : Int)))) fuelN v_size) fun s1 => (b1 (fun r => some (Fl.rt r)) (b3 cutM (b2 f_Book_verse (some v_book) (some v_verse)) noneM (someM (some s1))))))
    (some (0 : Int)))
end Kj

set_option Elab.async false
set_option linter.all false
set_option maxRecDepth 100000
set_option maxHeartbeats 4000000
namespace Kj
open PySem L2
def f_hurdles (v_book : BookT) (v_unread : (List Int)) (v_verse : Int) : Option (List (List Int)) := finF (S := Unit) (R := (List (List Int))) 
  (b1 (fun v_sizes => (b1 (fun r => some (Fl.rt r)) (b1 (lcM fun x1 => lcE (some true) (b4 f_rivals (some v_book) (some v_unread) (some v_verse) (some x1))) (b1 rngM (some v_sizes)))))
    (b1 lenL (b3 f_deciding (some v_book) (some v_unread) (some v_verse))))
end Kj

set_option Elab.async false
set_option linter.all false
set_option maxRecDepth 100000
set_option maxHeartbeats 4000000
namespace Kj
open PySem L2
def f_goings (v_book : BookT) (v_unread : (List Int)) (v_heard : (List Str)) : Option (List (P2 Str Int)) := finF (S := Unit) (R := (List (P2 Str Int))) 
  (b1 (fun v_size => (b1 (fun v_counts => (bindF (S1 := Ct) (b1 (fun xs => forF (fun x2 s1 => (b1 (fun v_verse => (bindF (S1 := Ct) (iteM (b2 gtI (b1 lenL (some v_verse)) (some v_size))
    (b2 (fun v z => putC s1 z v fun v_counts => (some (Fl.nx v_counts))) (b2 addI (b2 (getC s1) (b2 atI (some v_verse) (some v_size)) (some (0 : Int))) (some (1 : Int))) (b2 atI (some v_verse) (some v_size)))
    (some (Fl.nx s1))) fun s4 => (some (Fl.nx s4))))
    (b2 f_Book_verse (some v_book) (some x2)))) xs v_counts) (b3 f_meeting (some v_book) (some v_unread) (some v_heard))) fun s1 => (b1 (fun r => some (Fl.rt r)) (some s1)))) (some ([] : Ct))))
    (b1 lenL (some v_heard)))
end Kj

set_option Elab.async false
set_option linter.all false
set_option maxRecDepth 100000
set_option maxHeartbeats 4000000
namespace Kj
open PySem L2
def f_law_share (v_law_verses : (List (List Str))) (v_law_one : Int) (v_law_other : Int) : Option Int := finF (S := Unit) (R := Int) 
  (b1 (fun v_law_size => (b1 (fun v_law_pairs => (bindF (S1 := Int) (whileF (fun s1 => (andM (b2 ltI (some s1) (b1 lenL (some v_law_pairs))) (b2 eqM ((b2 atI (some v_law_pairs) (some s1)).map P2.a) ((b2 atI (some v_law_pairs) (some s1)).map P2.b)))) (fun s1 => (b1 (fun y => (fun v_law_size => (some (Fl.nx v_law_size))) ((fun i j => i + j) s1 y)) (some (1 : Int)))) fuelN v_law_size) fun s1 => (b1 (fun r => some (Fl.rt r)) (some s1))))
    (b2 zipM (b2 atI (some v_law_verses) (some v_law_one)) (b2 atI (some v_law_verses) (some v_law_other)))))
    (some (0 : Int)))
end Kj

set_option Elab.async false
set_option linter.all false
set_option maxRecDepth 100000
set_option maxHeartbeats 4000000
/-! Kj19: list(zip(a, b)). -/
namespace Kj
open PySem L2 PySem.Spec
/-- a zip on its way, while at S a list is being filled -/
def ZSt (h : Heap) (z TI TO i1 i2 l1 l2 S : Addr) (xs ys : Array Value) (i : Nat) : Prop :=
  IsPair h TI (.ref i1) (.ref i2) ∧ h.IsListIter i1 l1 i ∧ h.IsListIter i2 l2 i ∧ h.IsList l1 xs ∧ h.IsList l2 ys ∧
    ((IsZip h z TI TO .none ∧ ∃ a b, IsPair h TO a b) ∨ ∃ T f oT, IsZipHeld h z TI TO T f ∧ h.get? T = some oT ∧ T ≠ z ∧ T ≠ i1 ∧ T ≠ i2 ∧ T ≠ S)
structure ZOff (z TI TO i1 i2 l1 l2 S : Addr) : Prop where
  z : z ≠ S
  TI : TI ≠ S
  TO : TO ≠ S
  i1 : i1 ≠ S
  i2 : i2 ≠ S
  l1 : l1 ≠ S
  l2 : l2 ≠ S
structure ZG (xs ys : Array Value) (lo : Addr) (h : Heap) (as : List Addr) : Prop where
  rise : as.Pairwise (· < ·)
  above : ∀ a ∈ as, lo < a
  pairs : ∀ (j : Nat) (a : Addr), as[j]? = some a → ∃ x y, xs[j]? = some x ∧ ys[j]? = some y ∧ IsPair h a x y
section
variable {prog : Program} {w : World} {A : Around} {E : Value → Shared → Prop} {s : Shared} {z TI TO i1 i2 l1 l2 S : Addr} {xs ys : Array Value} {i : Nat}
theorem ZSt.keep {h h' : Heap} (x : ZSt h z TI TO i1 i2 l1 l2 S xs ys i) (o : ZOff z TI TO i1 i2 l1 l2 S) (hk : ∀ b o, b ≠ S → h.get? b = some o → h'.get? b = some o) : ZSt h' z TI TO i1 i2 l1 l2 S xs ys i := by
  obtain ⟨h1, h2, h3, h4, h5, h6⟩ := x
  refine ⟨hk _ _ o.TI h1, h2.at fun q e => hk _ q o.i1 e, h3.at fun q e => hk _ q o.i2 e, h4.at fun q e => hk _ q o.l1 e, h5.at fun q e => hk _ q o.l2 e, ?_⟩
  rcases h6 with ⟨hz, a, b, hp⟩ | ⟨T, f, oT, hz, hT, r1, r2, r3, r4⟩
  · exact .inl ⟨hk _ _ o.z hz, a, b, hk _ _ o.TO hp⟩
  · exact .inr ⟨T, f, oT, hk _ _ o.z hz, hk _ _ r4 hT, r1, r2, r3, r4⟩
end
section
variable {prog : Program} {w : World} {A : Around} {s : Shared} {R : Result → Shared → Prop} {z TI TO i1 i2 l1 l2 S : Addr} {xs ys : Array Value}
end
section
variable {prog : Program} {w : World} {A : Around} {s : Shared} {R : Result → Shared → Prop} {z TI TO i1 i2 l1 l2 S : Addr} {xs ys : Array Value}
end
end Kj

set_option Elab.async false
set_option linter.all false
set_option maxRecDepth 100000
set_option maxHeartbeats 4000000
/-! Kj20: list(zip(a, b)), read. -/
namespace Kj
open PySem L2 PySem.Spec
def putP : Hp → List Addr → List (V × V) → Hp
  | H, a :: as, p :: ps => putP (upd H a (.tup [p.1, p.2])) as ps
  | H, _, _ => H
def rZipL (K : PySem.W.Frag) : List V → Hp → VK → Prop := fun vs H Q => ∃ a b xs ys, vs = [.ref a, .ref b] ∧ SqL K H a xs ∧ SqL K H b ys ∧
  ∀ (H' : Hp) (p : Addr) (ts : List Addr), (∀ b o, H b = some o → H' b = some o) → H p = none → (∀ t ∈ ts, H t = none) → p ∉ ts → H' p = some (.lst (ts.map V.ref)) → Paired (fun (t : Addr) (q : V × V) => H' t = some (.tup [q.1, q.2])) ts (xs.zip ys) → Q (.ref p) H'
def tListZip (K : PySem.W.Frag) (ta : TA) : TE := fun σ H Q => ta σ H fun vs H1 => rZipL K vs H1 Q
section
variable {X : Cx} {e e2 : Expr} {ta : TA} {p p2 pos2 pos : Pos}
end
section
variable {Gw : WK} {H0 : Hp} {ρ ρ' : List Slot} {K : PySem.W.Frag} {f fa fb fc g : Bool} {ta tb tc te : TE} {α β γ δ : Type}
end
end Kj

set_option Elab.async false
set_option linter.all false
set_option maxRecDepth 100000
set_option maxHeartbeats 4000000
/-! Kj21: len(set(xs)), xs distinct texts. -/
namespace Kj
open PySem PySem.Spec PyProof.Rows L2
section
variable {prog : Program} {w : World} {A : Around} {R : Result → Shared → Prop} {I : Addr} {fp wr : List Addr} {G : Array GenState → Array GenState → Prop} {n : Nat} {P : Nat → Value → Prop} {St : Nat → Shared → Prop}
end
section
variable {P : Program} {w : World} {A : Around} {E : Value → Shared → Prop} {s : Shared}
end
def tLenSetS (K : PySem.W.Frag) (ta : TE) : TE := fun σ H Q => ta σ H fun x H1 => ∃ (l : Addr) (xs : List Str), x = V.ref l ∧ SqL K H1 l (xs.map V.str) ∧ xs.length < 64 ∧ xs.Nodup ∧ Q (.int (xs.length : Nat)) H1
def lenSetM (xs : List Str) : Option Int := if xs.length < 64 ∧ xs.Nodup then some (xs.length : Int) else none
end Kj

set_option Elab.async false
set_option linter.all false
set_option maxRecDepth 100000
set_option maxHeartbeats 4000000
/-! Kj22: len of a pair. -/
namespace Kj
open PySem L2
def lenP2 {α β : Type} (_ : P2 α β) : Option Int := some 2
end Kj

set_option Elab.async false
set_option linter.all false
set_option maxRecDepth 100000
set_option maxHeartbeats 4000000
/-! Kj23: lists of lists, both the caller's own; rows cleared. -/
namespace Kj
open PySem L2
inductive RowsA (H : Hp) : List V → List (List Int) → Prop
  | nil : RowsA H [] []
  | cons {r : Addr} {vs : List V} {x : List Int} {xs : List (List Int)} : H r = some (.lst (x.map V.int)) → RowsA H vs xs → RowsA H (.ref r :: vs) (x :: xs)
theorem RowsA.mono {H H' : Hp} (s : Same H H') : ∀ {vs : List V} {xs : List (List Int)}, RowsA H vs xs → RowsA H' vs xs
  | _, _, .nil => .nil
  | _, _, .cons h t => .cons (s _ _ h) (t.mono s)
theorem RowsA.len {H : Hp} : ∀ {vs : List V} {xs : List (List Int)}, RowsA H vs xs → vs.length = xs.length
  | _, _, .nil => rfl
  | _, _, .cons _ t => by rw [List.length_cons, List.length_cons, t.len]
theorem RowsA.app {H : Hp} {r : Addr} {x : List Int} (hr : H r = some (.lst (x.map V.int))) : ∀ {vs : List V} {xs : List (List Int)}, RowsA H vs xs → RowsA H (vs ++ [.ref r]) (xs ++ [x])
  | _, _, .nil => .cons hr .nil
  | _, _, .cons h t => .cons h (t.app hr)
theorem RowsA.all {H : Hp} : ∀ {vs : List V} {xs : List (List Int)}, RowsA H vs xs → ∀ v ∈ vs, ∃ r x, v = .ref r ∧ H r = some (.lst (List.map V.int x))
  | _, _, .nil, v, h => by cases h
  | _, _, .cons h t, v, hv => by
    rcases List.mem_cons.mp hv with e | e
    · exact ⟨_, _, e, h⟩
    · exact t.all v e
theorem RowsA.dp {K : PySem.W.Frag} {H : Hp} : ∀ {vs : List V} {xs : List (List Int)}, RowsA H vs xs → DpAll K H vs (xs.map en)
  | _, _, .nil => .nil
  | _, _, .cons h t => .cons (.lst (SqL.of h) (dpa_ints _)) t.dp
def aLL (xs : List (List Int)) : Abs := ⟨fun v H => ∃ p vs, v = .ref p ∧ H p = some (.lst vs) ∧ RowsA H vs xs, fun v H H' s ⟨p, vs, e, h, t⟩ => ⟨p, vs, e, s _ _ h, t.mono s⟩⟩
section
variable {Gw : WK} {H0 : Hp} {ρ ρ' : List Slot} {K : PySem.W.Frag} {f fa fb fc g : Bool} {ta tb tc te : TE} {α β γ δ S S1 R : Type} {A : R → Abs} {B : S → List Slot} {t u w : TS}
end
/-! xs.clear() -/
def rClear : V → List V → Hp → VK → Prop := fun x vs H Q => ∃ l xs, x = .ref l ∧ vs = [] ∧ H l = some (.lst xs) ∧ Q .non (upd H l (.lst []))
theorem EnvOk.back {H0 : Hp} {σ : St} {ρ : List Slot} {H Hr H2 : Hp} (E : EnvOk H0 σ ρ H Hr) (s : Same H H2) : EnvOk H0 σ ρ H2 Hr := by
  refine ⟨E.base.trans s, E.sub.trans s, E.len, fun i sl hs => ?_, E.dis, E.reg.to (fun i A h => ⟨h, rfl⟩) (fun a o h1 h2 h3 _ => ⟨s _ _ h1, h2, h3⟩) fun j B p h1 h2 => .inl ⟨B, h1, h2⟩⟩
  have q := E.slot i sl hs
  cases sl with
  | no => trivial
  | reg A => trivial
  | dat A => exact q
  | new A => exact q
  | own B => obtain ⟨p, o, e1, e2, e3, e4, e5⟩ := q; exact ⟨p, o, e1, e2, e3, s _ _ e4, e5⟩
end Kj

set_option Elab.async false
set_option linter.all false
set_option maxRecDepth 100000
set_option maxHeartbeats 4000000
/-! Kj25: xs[i] = y on one's own list; db_told for a call with three arguments. -/
namespace Kj
open PySem L2
def setIM {α β : Type} (xs : List α) (n : Int) (v : α) (k : List α → Option β) : Option β := match ixN xs.length n with | some j => k (xs.set j v) | none => none
section
variable {Gw : WK} {H0 : Hp} {ρ ρ' : List Slot} {K : PySem.W.Frag} {f fa fb fc g : Bool} {ta tb tc td te : TE} {α β γ δ S S1 R : Type} {A : R → Abs} {B : S → List Slot} {t u w : TS}
end
end Kj

set_option Elab.async false
set_option linter.all false
set_option maxRecDepth 100000
set_option maxHeartbeats 4000000
/-! Kj30: lists and tuples of things of any kind; results that may be the caller's own data; targets. -/
namespace Kj
open PySem L2
/-! ### lists and tuples of things of any kind -/
def aLsA (K : PySem.W.Frag) (As : List Abs) : Abs := ⟨fun v H => ∃ p vs, v = .ref p ∧ SqL K H p vs ∧ AllP As vs H, fun v H H' s ⟨p, vs, e, h, t⟩ => ⟨p, vs, e, s.seq h, t.mono s⟩⟩
def aTpA (K : PySem.W.Frag) (As : List Abs) : Abs := ⟨fun v H => ∃ p vs, v = .ref p ∧ SqT K H p vs ∧ AllP As vs H, fun v H H' s ⟨p, vs, e, h, t⟩ => ⟨p, vs, e, seqT s h, t.mono s⟩⟩
abbrev aLs {α : Type} (K : PySem.W.Frag) (A : α → Abs) (xs : List α) : Abs := aLsA K (xs.map A)
abbrev aT2 {α β : Type} (K : PySem.W.Frag) (A : α → Abs) (B : β → Abs) (x : P2 α β) : Abs := aTpA K [A x.a, B x.b]
abbrev aT3 {α β γ : Type} (K : PySem.W.Frag) (A : α → Abs) (B : β → Abs) (C : γ → Abs) (x : P3 α β γ) : Abs := aTpA K [A x.a, B x.b, C x.c]
abbrev aT4 {α β γ δ : Type} (K : PySem.W.Frag) (A : α → Abs) (B : β → Abs) (C : γ → Abs) (D : δ → Abs) (x : P4 α β γ δ) : Abs := aTpA K [A x.a, B x.b, C x.c, D x.d]
theorem allp_dpa {K : PySem.W.Frag} {H : Hp} : ∀ {ds : List PyData} {vs : List V}, DpAll K H vs ds → AllP (ds.map (aD K)) vs H
  | [], _, h => by cases h; exact .nil
  | d :: ds, _, h => by
    cases h with
    | cons h1 h2 => exact .cons h1 (allp_dpa h2)
theorem aTp_of {K : PySem.W.Frag} {ds : List PyData} {v : V} {H : Hp} (h : (aD K (.tuple ds)).p v H) : (aTpA K (ds.map (aD K))).p v H := by
  have h : Dp K H v (.tuple ds) := h
  cases h with
  | tup hs hA =>
    refine ⟨_, _, rfl, hs, ?_⟩
    exact allp_dpa hA
section
variable {H0 : Hp} {ρ ρ' ρ1 ρ2 : List Slot} {K : PySem.W.Frag} {f fa fb fc g : Bool} {ta tb tc td te : TE} {α β γ δ : Type} {A : α → Abs} {B : β → Abs} {C : γ → Abs} {D : δ → Abs}
theorem da_consF {t : TA} {A : Abs} {As : List Abs} (h : DE H0 ρ te f A) (hr : DA H0 ρ t f As) : DA H0 ρ (tCons te t) f (A :: As) := fun σ H Hr Q E k => h σ H Hr _ E fun v H1 Hr1 x1 a1 => hr σ H1 Hr1 _ (E.ext x1) fun vs H2 Hr2 x2 a2 =>
  k (v :: vs) H2 Hr2 (x1.trans x2) (.cons (A.mono _ _ _ (hp_mono f H0 x2.r) a1) a2)
theorem da_nilF : DA H0 ρ tNil f [] := fun σ H Hr Q E k => k [] H Hr (Ext.refl E.sub) .nil
def DAmA (H0 : Hp) (ρ : List Slot) (t : TA) (f : Bool) {α : Type} (A : α → Abs) (m : Option (List α)) : Prop := ∀ xs, m = some xs → DA H0 ρ t f (xs.map A)
/-! targets -/
def DGs (H0 : Hp) (ρ : List Slot) (g : TGs) (f : Bool) (As : List Abs) (ρ' : List Slot) (vs : List Nat) : Prop :=
  ∀ (σ : St) (H Hr : Hp) (us : List V) (Q : St → Hp → Prop), EnvOk H0 σ ρ H Hr → AllP As us (hp f Hr H0) → (∀ σ', EnvOk H0 σ' ρ' H Hr → wipe σ' vs = wipe σ vs → Q σ' H) → g us σ H Q
theorem dgs_nil {vs : List Nat} : DGs H0 ρ gNil f [] ρ vs := fun σ H Hr us Q E h k => by cases h; exact ⟨rfl, k σ E rfl⟩
theorem dgs_cons {A1 : Abs} {As : List Abs} {vs : List Nat} {g : TG} {gs : TGs} (h : DG H0 ρ g f A1 ρ1 vs) (t : DGs H0 ρ1 gs f As ρ2 vs) : DGs H0 ρ (gCons g gs) f (A1 :: As) ρ2 vs := fun σ H Hr us Q E hA k => by
  cases hA with
  | cons a as => exact ⟨_, _, rfl, h σ H Hr _ _ E a fun σ1 E1 w1 => t σ1 H Hr _ _ E1 as fun σ2 E2 w2 => k σ2 E2 (w2.trans w1)⟩
theorem dg_tupA {As : List Abs} {vs : List Nat} {gs : TGs} {n : Nat} (h : DGs H0 ρ gs f As ρ1 vs) (hn : As.length = n := by rfl) : DG H0 ρ (gTup K n gs) f (aTpA K As) ρ1 vs := fun σ H Hr v Q E hA k => by
  obtain ⟨a, us, rfl, hs, hA⟩ := hA
  exact ⟨a, us, rfl, seqT ((hp_sub f).trans E.sub) hs, by rw [← hA.length]; exact hn, h σ H Hr us Q E hA k⟩
theorem dg_imp {A1 A2 : Abs} {vs : List Nat} {g : TG} (h : DG H0 ρ g f A1 ρ1 vs) (i : ∀ v G, A2.p v G → A1.p v G) : DG H0 ρ g f A2 ρ1 vs := fun σ H Hr v Q E a k => h σ H Hr v Q E (i _ _ a) k
theorem dg_t2 [Enc α] [Enc β] {x : P2 α β} {vs : List Nat} {gs : TGs} (h : DGs H0 ρ gs f [aE K x.a, aE K x.b] ρ1 vs) : DG H0 ρ (gTup K 2 gs) f (aE K x) ρ1 vs := dg_imp (dg_tupA h) fun v G a => aTp_of (ds := [en x.a, en x.b]) a
theorem dg_nm {A1 : Abs} {i : Nat} {vs : List Nat} (hi : Nat.blt i ρ.length = true := by rfl) (hv : vs.contains i = true := by rfl) : DG H0 ρ (gName i) f A1 (ρ.set i (sl f A1)) vs := fun σ H Hr v Q E a k => k _ (E.set (lt_of hi) a) (wipe_set (by simpa using hv))
end
/-! ### calls whose result may be the caller's own data -/
def spR (S : Spec) : Sp := fun vs H Q _ => ∃ As R Hr, S As R ∧ Same Hr H ∧ AllP As vs Hr ∧ ∀ v H' Hr', Ext H Hr H' Hr' → R.p v Hr' → Q v H'
def joinR (Hr1 Hr2 : Hp) : Hp := fun a => match Hr1 a with | some o => some o | none => Hr2 a
theorem joinR_l {Hr1 Hr2 : Hp} : Same Hr1 (joinR Hr1 Hr2) := fun a o h => by unfold joinR; rw [h]
theorem joinR_r {H Hr1 Hr2 : Hp} (s1 : Same Hr1 H) (s2 : Same Hr2 H) : Same Hr2 (joinR Hr1 Hr2) := fun a o h => by
  unfold joinR
  cases q : Hr1 a with
  | none => exact h
  | some u => have := s1 _ _ q; rw [s2 _ _ h] at this; exact this.symm
theorem Ext.sub {H0 H1 Hr1 H2 Hr2 : Hp} {f : Bool} (b : Same H0 H1) (s : Same Hr1 H1) (x : Ext H1 (hp f Hr1 H0) H2 Hr2) : Ext H1 Hr1 H2 (joinR Hr1 Hr2) ∧ Same Hr2 (hp f (joinR Hr1 Hr2) H0) := by
  have sj : Same Hr2 (joinR Hr1 Hr2) := joinR_r (s.trans x.h) x.s
  refine ⟨⟨x.h, joinR_l, fun a o h => ?_, fun a o h h' => ?_⟩, ?_⟩
  · unfold joinR at h
    cases q : Hr1 a with
    | some u => rw [q] at h; cases h; exact x.h _ _ (s _ _ q)
    | none => rw [q] at h; exact x.s _ _ h
  · unfold joinR at h
    rw [h'] at h
    exact x.n a o h ((hp_sub f).free h')
  · cases f
    · exact sj
    · intro a o h
      refine mns_some.mpr ⟨?_, sj _ _ h⟩
      cases q : (mns Hr1 H0) a with
      | some u => exact (mns_some.mp q).1
      | none => exact b.free (x.n a o h q)
section
variable {H0 : Hp} {ρ ρ' : List Slot} {K : PySem.W.Frag} {f fa fb : Bool} {ta tb te : TE} {α β γ δ : Type}
theorem de_callR {S : Spec} {As : List Abs} {R : Abs} {t : TA} {Ex : XK} (ha : DA H0 ρ t f As) (hs : S As R) : DE H0 ρ (tCall (spR S) [] Ex t) f R := fun σ H Hr Q E k => by
  refine ha σ H Hr _ E fun vs H1 Hr1 x1 a1 => ?_
  show spR S (vs ++ []) H1 Q Ex
  rw [List.append_nil]
  have E1 := E.ext x1
  refine ⟨As, R, hp f Hr1 H0, hs, (hp_sub f).trans x1.s, a1, fun v H2 Hr2 x2 r2 => ?_⟩
  obtain ⟨x3, s3⟩ := Ext.sub E1.base E1.sub x2
  exact k v H2 _ (x1.trans x3) (R.mono _ _ _ s3 r2)
end
theorem env_startN {H Hr : Hp} (s : Same Hr H) : ∀ {As : List Abs} {vs : List V} (n : Nat), AllP As vs Hr → EnvOk (mns H Hr) (vs.map some ++ List.replicate n none) (As.map Slot.new ++ List.replicate n Slot.no) H Hr := fun {As vs} n h => by
  have hl := h.length
  have cls : ∀ (i : Nat) (s : Slot), (As.map Slot.new ++ List.replicate n Slot.no)[i]? = some s → s = .no ∨ ∃ A, s = .new A ∧ As[i]? = some A := fun i s hs => by
    by_cases hi : i < As.length
    · rw [List.getElem?_append_left (by simpa using hi), List.getElem?_map, List.getElem?_eq_getElem hi] at hs
      exact .inr ⟨As[i], (Option.some.inj hs).symm, List.getElem?_eq_getElem hi⟩
    · rw [List.getElem?_append_right (by simpa using Nat.le_of_not_lt hi)] at hs
      obtain ⟨z, e⟩ := List.getElem?_eq_some_iff.mp hs
      rw [List.getElem_replicate] at e
      exact .inl e.symm
  refine ⟨fun a o q => (mns_some.mp q).2, s, by simp [hl], fun i s hs => ?_, fun i j p B B' _ hi _ _ _ => ?_, .nil fun i A h => by rcases cls i _ h with e | ⟨A, e, _⟩ <;> cases e⟩
  · rcases cls i s hs with rfl | ⟨A, rfl, hA⟩
    · trivial
    · obtain ⟨v, h1, h2⟩ := allp_get h i A hA
      have hi : i < vs.length := (List.getElem?_eq_some_iff.mp h1).1
      exact ⟨v, by rw [List.getElem?_append_left (by simpa using hi), List.getElem?_map, h1]; rfl, A.mono _ _ _ (fun a o q => mns_some.mpr ⟨by unfold mns; rw [q], q⟩) h2⟩
  · rcases cls i _ hi with e | ⟨A, e, _⟩ <;> cases e
section
variable {P : Program} {w : World} {K : PySem.W.Frag} {mg : Str → Option Value} {base : Heap}
theorem fnR_ok {x qual : Str} {st : Stmt} {f : Addr} {fd : FuncData} {N ps : List Str} {k : Nat} {S : Spec} (F : FnP K x qual st f fd) (Sc : FnScope N ps (defScope st)) (len : ∀ As R, S As R → As.length = ps.length)
    (body : ∀ (cdv : Value) (A : Around) (outer : List Env) (s : Shared) (H : Hp) (E : XK), Room k (A.deeper (PyProof.Rows.envOfC qual (defScope st) s.heap.objs.size f cdv)) →
      ∃ t, PSs (cxOf CX0 P w K mg base N qual (defScope st) f cdv A outer s H E).nox (defBody st) t ∧ ∀ H0 As R, S As R → DS C0 H0 (As.map Slot.new ++ List.replicate (N.length - As.length) Slot.no) t (fun _ => ∀ G, R.p .non G) R) : FnOk P w K mg base CX0 (k + 1) f fd ps (spR S) := by
  refine F.ok Sc (fun vs H Q E h => ?_) (fun cdv A outer s H vs Q E hr h => ?_)
  · obtain ⟨As, R, Hr, h1, _, h2, _⟩ := h
    rw [← h2.length]; exact len As R h1
  · obtain ⟨As, R, Hr, h1, hs, h2, h3⟩ := h
    obtain ⟨t, p, d⟩ := body cdv A outer s H E hr
    have out : ∀ v H', Same (mns H Hr) H' → Same Hr H' → R.p v (mns H' (mns H Hr)) → Q v H' := fun v H' s1 s2 r => by
      have sH : Same H H' := fun a o q => by
        cases z : Hr a with
        | some u => have := hs _ _ z; rw [q] at this; cases this; exact s2 _ _ z
        | none => exact s1 _ _ (mns_some.mpr ⟨z, q⟩)
      refine h3 v H' _ (Ext.call hs (Same.refl H) sH) (R.mono _ _ _ (fun a o q => ?_) r)
      obtain ⟨q1, q2⟩ := mns_some.mp q
      unfold joinH
      cases z : Hr a with
      | some u => have := s2 _ _ z; rw [q2] at this; exact this.symm
      | none =>
        refine mns_some.mpr ⟨?_, q2⟩
        cases y : H a with
        | none => rfl
        | some u => rw [mns_some.mpr ⟨z, y⟩] at q1; cases q1
    refine ⟨t, p.nox, d _ As R h1 _ H Hr _ ?_ (fun _ _ H' _ n E' s => out .non H' E'.base (s.trans E'.sub) (n _)) out (KX.no fun _ _ _ _ z => z)⟩
    have e := env_startN hs (n := N.length - vs.length) h2
    unfold L2.start
    rw [h2.length]
    exact e
end
end Kj

set_option Elab.async false
set_option linter.all false
set_option maxRecDepth 100000
set_option maxHeartbeats 4000000
/-! Kj31: a comprehension with three fors. -/
namespace Kj
open PySem PySem.Spec PyProof.Rows L2
abbrev FF : Value → Shared → Prop := fun _ _ => False
abbrev Bd := L2.St → Hp → (Hp → Prop) → Prop
abbrev Rn := Shared → (Shared → Prop) → Prop
/-- what the work of one turn comes to -/
def Wrk (Y : Cx) (us : List Nat) (B : Bd) (run : Rn) : Prop :=
  ∀ (pins : List (Addr × Obj)) (s : Shared) (σ : L2.St) (H : Hp) (Nx : Hp → Prop) (Po : Shared → Prop), Inv Y pins σ H s → B σ H Nx →
    (∀ s' σ' H', Inv Y pins σ' H' s' → σ'.length = σ.length → (∀ (j : Nat) v, j ∉ us → σ[j]? = some (some v) → σ'[j]? = some (some v)) → Nx H' → Po s') → run s Po
def LpR (J : It) (g : TG) (tt : TT) (B : Bd) (us : List Nat) (σ : L2.St) (H : Hp) (Nx : Hp → Prop) : Prop :=
  ∃ W : Nat → Nat → Hp → Prop, (∃ m, W 0 m H) ∧ ∀ i m G, W i m G → (J.stop i G ∧ Nx G) ∨ (J.go i G ∧ ∃ N' : Hp → Prop, (∀ G', N' G' → ∃ m', m' < m ∧ W (i + 1) m' G') ∧
    ∀ x G', J.yld i G x G' → g x (wipe σ us) G' fun σ2 H2 => wipe σ2 us = wipe σ us ∧ tt σ2 H2 fun b H3 => if b = true then B σ2 H3 N' else N' H3)
def TurnRule (P : Program) (w : World) (A : Around) (env : Env) (c : Expr) (k : Nat) (t0 : Expr) (ifs0 : List Expr) (it : Addr) (acc : Value) (run : Rn) : Prop :=
  ∀ (R : Result → Shared → Prop) (I : Nat → Shared → Prop), (∀ n s, I n s → wpAny (model P w) A (pyNext (.ref it)) (fun r s1 => match r with
      | none => R (.ok .next) s1
      | some v => wpAny (model P w) A (letOwnedTupleGo t0 (.ref it) v) (fun _ s2 => wpAny (model P w) A (assign t0 env v) (fun _ s3 =>
          wpAny (model P w) A (forIn ifs0 true fun c r => if r = true then do let ok ← isTrue c env (eval c env); pure (ForInStep.yield ok) else pure (ForInStep.yield r)) (fun ok s4 =>
            if ok = true then run s4 (fun s' => ∃ m, m < n ∧ I m s') else ∃ m, m < n ∧ I m s4) FF s3) FF s2) FF s1) FF s) →
    ∀ n s, I n s → codeAny (model P w) A (.compLoop c k (.ref it) acc env) R s
abbrev sTests (env : Env) (ifs : List Expr) : Sem Bool := forIn ifs true fun c r => if r = true then do let ok ← isTrue c env (eval c env); pure (ForInStep.yield ok) else pure (ForInStep.yield r)
def rnIn (P : Program) (w : World) (A : Around) (env : Env) (elt : Expr) (acc : Value) : Rn := fun s Po => wpAny (model P w) A (eval elt env) (fun x s1 => wpAny (model P w) A (call (.builtin "list.append") [acc, x]) (fun _ s2 => Po s2) FF s1) FF s
def rnOut (P : Program) (w : World) (A : Around) (env : Env) (c : Expr) (k : Nat) (j1 : Expr) (acc : Value) : Rn := fun s Po => wpAny (model P w) A (eval j1 env) (fun x s1 => wpAny (model P w) A (pyIter x) (fun i2 s2 =>
  codeAny (model P w) A (.compStart c k i2 acc env) (fun r s' => match r with
    | .ok _ => Po s'
    | .error _ => False) s2) FF s1) FF s
section
variable {P : Program} {w : World} {A : Around} {env : Env} {c t0 j0 j1 elt : Expr} {ifs0 : List Expr} {k : Nat} {it : Addr} {acc : Value}
end
section
variable {P : Program} {w : World} {A : Around} {env : Env} {elt t0 i0 t1 i1 t2 i2 : Expr} {f0 f1 f2 : List Expr} {scope : Scope} {pos : Pos} {it : Addr} {acc : Value}
abbrev lc3E (elt t0 i0 t1 i1 t2 i2 : Expr) (f0 f1 f2 : List Expr) (scope : Scope) (pos : Pos) : Expr := .ListComp elt [⟨t0, i0, f0, 0⟩, ⟨t1, i1, f1, 0⟩, ⟨t2, i2, f2, 0⟩] scope pos
end
/-! the start of a clause behind the first -/
def StartRule (P : Program) (w : World) (A : Around) (env : Env) (c : Expr) (k : Nat) (acc : Value) : Prop := ∀ (it : Addr) (R : Result → Shared → Prop) (s : Shared),
  codeAny (model P w) A (.compLoop c k (.ref it) acc env) R s → wpAny (model P w) A (pyIter (.ref it)) (fun it' s' => codeAny (model P w) A (.compLoop c k it' acc env) R s') FF s → codeAny (model P w) A (.compStart c k (.ref it) acc env) R s
section
variable {P : Program} {w : World} {A : Around} {env : Env} {elt t0 i0 t1 i1 t2 i2 : Expr} {f0 f1 f2 : List Expr} {scope : Scope} {pos : Pos} {acc : Value}
end
def bIn (te : TE) (D : Addr) : Bd := fun σ H Nx => te σ H fun y H1 => ∃ acc, H1 D = some (.lst acc) ∧ acc.length < sizeLine ∧ Nx (upd H1 D (.lst (acc ++ [y])))
def bOut (wi : TI) (g : TG) (tt : TT) (vs : List Nat) (B : Bd) : Bd := fun σ H Nx => wi σ H fun J H1 => LpR J g tt B vs σ H1 Nx
end Kj

set_option Elab.async false
set_option linter.all false
set_option maxRecDepth 100000
set_option maxHeartbeats 4000000
/-! Kj32: comprehensions with two and three fors: the rule. -/
namespace Kj
open PySem PySem.Spec PyProof.Rows L2
def tLcN (wi : TI) (g : TG) (tt : TT) (B : Addr → Bd) (us : List Nat) : TE := fun σ H Q => wi σ H fun J H1 => ∀ D, H1 D = none → LpR J g tt (B D) us σ (upd H1 D (.lst [])) fun H' => Q (.ref D) H'
section
variable {X : Cx}
abbrev fQ (X : Cx) (Q : Cx → Prop) (scope : Scope) : Prop := ∀ (s : Shared) (H : Hp) (C : Addr) (cl : List (Str × Addr)) (fp : List Addr), Q (X.blk s H scope (compEnvC scope cl C X.env) fp)
end
end Kj

set_option Elab.async false
set_option linter.all false
set_option maxRecDepth 100000
set_option maxHeartbeats 4000000
/-! Kj33: comprehensions with two and three fors: the readings. -/
namespace Kj
open PySem L2
structure ExtX (D : Addr) (H Hr H' Hr' : Hp) : Prop where
  h : ∀ a o, a ≠ D → H a = some o → H' a = some o
  r : Same Hr Hr'
  s : Same Hr' H'
  n : ∀ a o, Hr' a = some o → Hr a = none → H a = none
theorem Ext.x {D : Addr} {H Hr H' Hr' : Hp} (x : Ext H Hr H' Hr') : ExtX D H Hr H' Hr' := ⟨fun a o _ h => x.h a o h, x.r, x.s, x.n⟩
theorem ExtX.trans {D : Addr} {H Hr H1 Hr1 H2 Hr2 : Hp} {u : HO} (hD : H D = some u) (x : ExtX D H Hr H1 Hr1) (y : ExtX D H1 Hr1 H2 Hr2) (hr : Hr2 D = none) : ExtX D H Hr H2 Hr2 := ⟨fun a o n h => y.h a o n (x.h a o n h), x.r.trans y.r, y.s, fun a o h h' => by
  cases q : Hr1 a with
  | some v => exact x.n a v q h'
  | none =>
    have n : a ≠ D := fun z => by subst z; rw [hr] at h; cases h
    have := y.n a o h q
    cases q2 : H a with
    | none => rfl
    | some v => rw [x.h a v n q2] at this; cases this⟩
def ownAt (ρ : List Slot) (i : Nat) : Bool := match ρ[i]? with | some (.own _) => true | _ => false
def ownOff (r' ρ : List Slot) (vs : List Nat) : Bool := ((List.range r'.length).all fun i => !ownAt r' i || (ownAt ρ i && !vs.contains i)) && noReg r'
def OffD (ρ : List Slot) (σ : St) (D : Addr) : Prop := ∀ (i : Nat) (B : AbsO) (p : Addr), ρ[i]? = some (.own B) → σ[i]? = some (some (.ref p)) → p ≠ D
theorem ownOff_at {r' ρ : List Slot} {vs : List Nat} (h : ownOff r' ρ vs = true) {i : Nat} {B : AbsO} (hi : r'[i]? = some (.own B)) : (∃ B', ρ[i]? = some (.own B')) ∧ i ∉ vs := by
  unfold ownOff at h
  rw [Bool.and_eq_true, List.all_eq_true] at h
  replace h := h.1
  have lt : i < r'.length := (List.getElem?_eq_some_iff.mp hi).1
  have q := h i (List.mem_range.mpr lt)
  have e : ownAt r' i = true := by unfold ownAt; rw [hi]
  rw [e] at q
  simp only [Bool.not_true, Bool.false_or, Bool.and_eq_true, Bool.not_eq_true', List.contains_eq_mem, decide_eq_false_iff_not] at q
  refine ⟨?_, q.2⟩
  have q1 := q.1
  unfold ownAt at q1
  split at q1
  · rename_i B' hB; exact ⟨B', hB⟩
  · cases q1
theorem OffD.tg {r' ρ : List Slot} {vs : List Nat} {σ σ2 : St} {D : Addr} (o : OffD ρ σ D) (h : ownOff r' ρ vs = true) (hw : wipe σ2 vs = wipe σ vs) : OffD r' σ2 D := fun i B p hi hp => by
  obtain ⟨⟨B', h1⟩, h2⟩ := ownOff_at h hi
  refine o i B' p h1 ?_
  rw [← wipe_out h2 (σ := σ), ← hw, wipe_out h2]
  exact hp
theorem OffD.ext {ρ : List Slot} {σ : St} {D : Addr} {H0 H Hr : Hp} (E : EnvOk H0 σ ρ H Hr) (hD : H D = none) : OffD ρ σ D := fun i B p h1 h2 => by
  obtain ⟨q, o, q1, _, _, q4, _⟩ := E.slot i _ h1
  rw [h2] at q1
  cases q1
  exact ne_of_none q4 hD
theorem wipeS_own : ∀ {vs : List Nat} {ρ : List Slot} {i : Nat} {B : AbsO}, (wipeS ρ vs)[i]? = some (.own B) → ρ[i]? = some (.own B)
  | [], _, _, _, h => h
  | v :: vs, ρ, i, B, h => by
    unfold wipeS at h
    by_cases e : v = i
    · subst e
      by_cases hl : v < (wipeS ρ vs).length
      · rw [List.getElem?_set_self hl] at h; cases h
      · rw [List.getElem?_eq_none (by rw [List.length_set]; omega)] at h; cases h
    · rw [List.getElem?_set_ne e] at h
      exact wipeS_own h
theorem wipe_own {vs : List Nat} {σ : St} {i : Nat} {p : Addr} (h : (wipe σ vs)[i]? = some (some (.ref p))) : σ[i]? = some (some (.ref p)) := (wipe_some h).1
theorem OffD.wipe {ρ : List Slot} {σ : St} {D : Addr} (o : OffD ρ σ D) (vs : List Nat) : OffD (wipeS ρ vs) (wipe σ vs) D := fun i B p h1 h2 => o i B p (wipeS_own h1) (wipe_own h2)
/-- B lays ys behind what stands in D's list -/
def DBd (K : PySem.W.Frag) (H0 : Hp) (ρ : List Slot) (f : Bool) (B : Addr → Bd) (ys : List PyData) : Prop :=
  ∀ (D : Addr) (σ : St) (H Hr : Hp) (acc : List V) (Nx : Hp → Prop), EnvOk H0 σ ρ H Hr → OffD ρ σ D → H0 D = none → Hr D = none → H D = some (.lst acc) → acc.length + ys.length ≤ 100000 →
    (∀ H' Hr' zs, ExtX D H Hr H' Hr' → Hr' D = none → H' D = some (.lst (acc ++ zs)) → DpAll K (hp f Hr' H0) zs ys → Nx H') → B D σ H Nx
theorem ExtX.off {D : Addr} {H Hr H' Hr' : Hp} {u : HO} (x : ExtX D H Hr H' Hr') (hr : Hr D = none) (hD : H D = some u) : Hr' D = none := by
  cases z : Hr' D with
  | none => rfl
  | some v => have := x.n D v z hr; rw [hD] at this; cases this
def tot (ys : Nat → List PyData) : Nat → List PyData
  | 0 => []
  | n + 1 => tot ys n ++ ys n
section
variable {H0 : Hp} {ρ : List Slot} {K : PySem.W.Frag} {f fa fb : Bool} {ta tb te : TE} {α β γ : Type}
/-! by programs -/
def catF {α β : Type} (g : α → Option (List β)) : List α → Option (List β)
  | [] => some []
  | x :: xs => (g x).bind fun ys => (catF g xs).bind fun zs => some (ys ++ zs)
@[irreducible] def lim {β : Type} (xs : List β) : Option (List β) := if xs.length ≤ 100000 then some xs else none
def one1 {β : Type} (y : β) : Option (List β) := some [y]
def DBm (K : PySem.W.Frag) (H0 : Hp) (ρ : List Slot) (f : Bool) (B : Addr → Bd) {β : Type} [Enc β] (m : Option (List β)) : Prop := ∀ ys, m = some ys → DBd K H0 ρ f B (ys.map en)
end
end Kj

set_option Elab.async false
set_option linter.all false
set_option maxRecDepth 100000
set_option maxHeartbeats 4000000
/-! Kj34: len(set(numbers)), any. -/
namespace Kj
open PySem PySem.Spec PySem.SeqAt PyProof.Rows L2
def tLenSetI (K : PySem.W.Frag) (ta : TE) : TE := fun σ H Q => ta σ H fun x H1 => ∃ (l : Addr) (ns : List Int), x = V.ref l ∧ SqL K H1 l (ns.map V.int) ∧ ns.length < 1000 ∧ Q (.int ((srtI ns).length : Nat)) H1
@[irreducible] def lenSetIM (ns : List Int) : Option Int := if ns.length < 1000 then some ((srtI ns).length : Nat) else none
def anyM (bs : List Bool) : Option Bool := some (bs.any id)
section
variable {H0 : Hp} {ρ : List Slot} {K : PySem.W.Frag} {f fa : Bool} {te : TE}
end
end Kj

set_option Elab.async false
set_option linter.all false
set_option maxRecDepth 100000
set_option maxHeartbeats 4000000
/-! Kj35: objects whose fields may be the caller's own data; several fields; calls by programs. -/
namespace Kj
open PySem L2
def putA (f : Str) (A : Abs) : List (Str × Abs) → List (Str × Abs)
  | [] => [(f, A)]
  | (g, B) :: r => if g = f then (g, A) :: r else (g, B) :: putA f A r
theorem FAll.put {f : Str} {A : Abs} {v : V} {H : Hp} (a : A.p v H) : ∀ {fas : List (Str × Abs)} {fs : List (Str × V)}, FAll fas fs H → FAll (putA f A fas) (putF f v fs) H
  | _, _, .nil => .cons a .nil
  | _, _, .cons (n := n) h t => by
    unfold putA putF
    by_cases e : n = f
    · rw [if_pos e, if_pos e]; exact .cons a t
    · rw [if_neg e, if_neg e]; exact .cons h (t.put a)
theorem FAll.len {H : Hp} : ∀ {fas : List (Str × Abs)} {fs : List (Str × V)}, FAll fas fs H → fas.length = fs.length
  | _, _, .nil => rfl
  | _, _, .cons _ t => by rw [List.length_cons, List.length_cons, t.len]
section
variable {Gw : WK} {C' : WZ} {H0 : Hp} {ρ ρ' : List Slot} {K : PySem.W.Frag} {f fa fb : Bool} {ta tb tc td te : TE} {α β γ δ ε S S1 R : Type} {A : R → Abs} {B : S → List Slot} {t u w : TS} {C : Addr} {fas : List (Str × Abs)}
/-- self.x = e -/
theorem ds_fldP {Rr : Abs} {i : Nat} {x : Str} {xo dx : Addr} {A1 : Abs} (hi : ρ[i]? = some (.own (oIns xo C dx fas))) (h : DE H0 ρ te true A1) (hc : Cls K C) (hn : NoAttr K C x) (hl : fas.length < 1000) : DS C' H0 ρ (sFld K (tVar i) te x) (fun r => r = ρ.set i (.own (oIns xo C dx (putA x A1 fas)))) Rr := fun σ H Hr D E kn kr kx => by
  refine h σ H Hr _ E fun v H1 Hr1 x1 a1 => ?_
  have E1 := E.ext x1
  obtain ⟨p, o, e1, e2, e3, e4, ep, fs, rfl, q⟩ := E1.slot i _ hi
  exact ⟨.ref p, e1, p, C, dx, fs, rfl, e4, hc, hn, by rw [← q.len]; exact hl, kn _ _ _ Hr1 rfl (E1.wr hi e1 ⟨ep, _, rfl, q.put a1⟩) x1.r⟩
theorem db_fldP {i : Nat} {x : Str} {xo dx : Addr} {Bf : α → Abs} {m : Option α} {k : α → Option (Fl S R)} (hi : ρ[i]? = some (.own (oIns xo C dx fas))) (h : DM H0 ρ te true Bf m) (hc : Cls K C) (hn : NoAttr K C x)
    (hk : ∀ y, DB Gw H0 (ρ.set i (.own (oIns xo C dx (putA x (Bf y) fas)))) u A (k y) B) (hl : Nat.blt fas.length 1000 = true := by rfl) : DB Gw H0 ρ (tSeq (sFld K (tVar i) te x) u) A (b1 k m) B := fun fl e => by
  obtain ⟨y, h1, h2⟩ := b1_some e
  exact ds_sq (ds_fldP hi (h y h1) hc hn (lt_of hl)) (hk y fl h2)
/-- what __init__ promises of an object that keeps what it is given -/
def spIR (S : List Abs → List (Str × Abs) → Prop) (C : Addr) : Sp := fun vs H Q _ => ∃ x dx As fas rest Hr, vs = .ref x :: rest ∧ H x = some (.ins C dx []) ∧ S As fas ∧ Same Hr (rm H x) ∧ AllP As rest Hr ∧
  ∀ H' Hr' fs, Ext (rm H x) Hr (rm H' x) Hr' → H' x = some (.ins C dx fs) → FAll fas fs Hr' → Q .non H'
variable {A1 : α → Abs} {B1 : β → Abs} {D1 : δ → Abs} {E1 : ε → Abs} {C1 : γ → Abs} {Ex : XK} {ma : Option α} {mb : Option β} {md : Option δ} {me : Option ε}
theorem dm_callR2 {F : α → β → Option γ} (h1 : DM H0 ρ ta f A1 ma) (h2 : DM H0 ρ tb f B1 mb) : DM H0 ρ (tCall (spR (sp2 A1 B1 C1 F)) [] Ex (tCons ta (tCons tb tNil))) f C1 (b2 F ma mb) := fun x e => by
  obtain ⟨a, b, e1, e2, h⟩ := b2_some e
  exact de_callR (da_consF (h1 _ e1) (da_consF (h2 _ e2) da_nilF)) ⟨a, b, x, rfl, h, rfl⟩
variable {Cl : Addr} {m : Str} {O : α → List (Str × Abs)}
end
theorem noReg_startN (As : List Abs) (n : Nat) : noReg (As.map Slot.new ++ List.replicate n Slot.no) = true := by
  unfold noReg
  rw [List.all_eq_true]
  intro s hs
  rcases List.mem_append.mp hs with h | h
  · obtain ⟨A, _, rfl⟩ := List.mem_map.mp h; rfl
  · rw [(List.mem_replicate.mp h).2]
theorem EnvOk.consOwnN {H0 H Hr : Hp} {σ : St} {ρ : List Slot} {x : Addr} {o : HO} {B : AbsO} (E : EnvOk H0 σ ρ (rm H x) Hr) (hn : noOwn ρ = true) (nr : noReg ρ = true) (hx : H x = some o) (hB : ∀ G, B.p x o G) : EnvOk H0 (some (.ref x) :: σ) (.own B :: ρ) H Hr := by
  have no : ∀ (i : Nat) (B : AbsO), ρ[i]? ≠ some (.own B) := fun i B h => by
    unfold noOwn at hn
    rw [List.all_eq_true] at hn
    exact Bool.noConfusion (hn _ (List.mem_of_getElem? h))
  have sub : ∀ {G : Hp}, Same G (rm H x) → Same G H ∧ G x = none := fun {G} s => ⟨fun a o q => (rm_some (s _ _ q)).1, s.free rm_self⟩
  refine ⟨(sub E.base).1, (sub E.sub).1, by simp [E.len], fun i u hu => ?_, fun i j p B1 B2 hij hi hj _ _ => ?_, .nil fun i A h => by
    cases i with
    | zero => cases h
    | succ i => exact noReg_at nr i A (by simpa using h)⟩
  · cases i with
    | zero =>
      have e := Option.some.inj hu
      subst e
      exact ⟨x, o, rfl, (sub E.base).2, (sub E.sub).2, hx, hB _⟩
    | succ i =>
      have hu' : ρ[i]? = some u := by simpa using hu
      have q := E.slot i u hu'
      cases u with
      | no => trivial
      | dat A => exact q
      | new A => exact q
      | reg A => trivial
      | own B => exact absurd hu' (no i B)
  · cases i with
    | zero =>
      cases j with
      | zero => exact hij rfl
      | succ j => exact no j B2 (by simpa using hj)
    | succ i => exact no i B1 (by simpa using hi)
theorem noOwn_startN (As : List Abs) (n : Nat) : noOwn (As.map Slot.new ++ List.replicate n Slot.no) = true := by
  unfold noOwn
  rw [List.all_eq_true]
  intro s hs
  rcases List.mem_append.mp hs with h | h
  · obtain ⟨A, _, rfl⟩ := List.mem_map.mp h; rfl
  · rw [(List.mem_replicate.mp h).2]
section
variable {P : Program} {w : World} {K : PySem.W.Frag} {mg : Str → Option Value} {base : Heap}
end
end Kj

set_option Elab.async false
set_option linter.all false
set_option maxRecDepth 100000
set_option maxHeartbeats 4000000
/-! Kj36: xs.index(n); a list that is lent for one statement; an odd thing appended. -/
namespace Kj
open PySem L2
def idxI (v : Int) : List Int → Option Nat
  | [] => none
  | x :: xs => if x = v then some 0 else (idxI v xs).map (· + 1)
def idxM (xs : List Int) (v : Int) : Option Int := (idxI v xs).map Int.ofNat
section
variable {Gw : WK} {H0 : Hp} {ρ ρ' : List Slot} {K : PySem.W.Frag} {f fa fb fc g : Bool} {ta tb tc te : TE} {α β γ δ S S1 R : Type} {A : R → Abs} {B : S → List Slot} {t u w : TS}
/-! a list of one's own is lent for one statement -/
def aPin (p : Addr) (A : Abs) : Abs := ⟨fun v H => v = .ref p ∧ A.p v H, fun v _ _ s ⟨e, h⟩ => ⟨e, A.mono _ _ _ s h⟩⟩
/-- nothing but what is new, own, or without an address; the slot i aside -/
inductive NoDat : List Slot → Prop
  | nil : NoDat []
  | no {l : List Slot} : NoDat l → NoDat (.no :: l)
  | new {A : Abs} {l : List Slot} : NoDat l → NoDat (.new A :: l)
  | own {B : AbsO} {l : List Slot} : NoDat l → NoDat (.own B :: l)
theorem NoDat.at : ∀ {l : List Slot}, NoDat l → ∀ (i : Nat) (A : Abs), l[i]? ≠ some (.dat A)
  | _, .nil, i, A, h => by simp at h
  | _, .no t, 0, A, h => by simp at h
  | _, .new t, 0, A, h => by simp at h
  | _, .own t, 0, A, h => by simp at h
  | _, .no t, i + 1, A, h => t.at i A (by simpa using h)
  | _, .new t, i + 1, A, h => t.at i A (by simpa using h)
  | _, .own t, i + 1, A, h => t.at i A (by simpa using h)
end
end Kj
namespace Kj
open PySem L2
end Kj

set_option Elab.async false
set_option linter.all false
set_option maxRecDepth 100000
set_option maxHeartbeats 4000000
/-! Kj37: two fields of rows, all of them one's own; how they are drawn. -/
namespace Kj
open PySem L2
/-! ### what is drawn -/
def insAt (i : Nat) (v : Int) (row : List Int) : List Int := row.take i ++ [v] ++ row.drop i
def fldHome (c w : Int) : Int := if c = 0 then w % 5 / 2 else if c = 1 then w % 4 / 2 else if w % 7 = 1 then 1 else if w % 7 = 4 then 2 else 0
def putRow (w v : Int) (xs : List (List Int)) : List (List Int) :=
  if (xs.getD (w / 35 % xs.length).toNat []).length < 12 then xs.set (w / 35 % xs.length).toNat (insAt (w / 105 % ((xs.getD (w / 35 % xs.length).toNat []).length + 1)).toNat v (xs.getD (w / 35 % xs.length).toNat [])) else xs
def fldStep (c w v : Int) (t : List (List Int) × List (List Int)) : List (List Int) × List (List Int) :=
  if fldHome c w = 0 then (putRow w v t.1, t.2) else if fldHome c w = 1 then (t.1, putRow w v t.2) else t
def fldAll (d : List Int) : Nat → List (List Int) × List (List Int)
  | 0 => (List.replicate (1 + d.getD 0 0 % 3).toNat [], List.replicate (1 + d.getD 1 0 % 3).toNat [])
  | k + 1 => fldStep (d.getD 2 0 % 3) (d.getD (3 + k) 0) k (fldAll d k)
@[irreducible] def f_law_fields (many : Int) (d : List Int) : Option (List (List (List Int))) :=
  if 0 ≤ many ∧ many ≤ 1000 ∧ many + 3 ≤ d.length then some [(fldAll d many.toNat).1, (fldAll d many.toNat).2] else none
/-! ### the tree -/
def RowsX (H : Hp) (rs : List Addr) (xs : List (List Int)) : Prop := rs.length = xs.length ∧ ∀ (i : Nat) (r : Addr) (x : List Int), rs[i]? = some r → xs[i]? = some x → H r = some (.lst (x.map V.int))
structure Tr2 (H0 Hr H : Hp) (p f0 f1 : Addr) (r0 r1 : List Addr) (x0 x1 : List (List Int)) : Prop where
  hp : H p = some (.lst [.ref f0, .ref f1])
  h0 : H f0 = some (.lst (r0.map .ref))
  h1 : H f1 = some (.lst (r1.map .ref))
  a0 : RowsX H r0 x0
  a1 : RowsX H r1 x1
  nd : (p :: f0 :: f1 :: (r0 ++ r1)).Nodup
  fr : ∀ a ∈ p :: f0 :: f1 :: (r0 ++ r1), H0 a = none ∧ Hr a = none ∧ ∃ o, H a = some o
theorem RowsX.same {H H' : Hp} {rs : List Addr} {xs : List (List Int)} (h : RowsX H rs xs) (s : ∀ r ∈ rs, H' r = H r) : RowsX H' rs xs := ⟨h.1, fun i r x h1 h2 => by rw [s r (List.mem_of_getElem? h1)]; exact h.2 i r x h1 h2⟩
theorem Tr2.ext {H0 Hr H Hr' H' : Hp} {p f0 f1 : Addr} {r0 r1 : List Addr} {x0 x1 : List (List Int)} (t : Tr2 H0 Hr H p f0 f1 r0 r1 x0 x1) (x : Ext H Hr H' Hr') : Tr2 H0 Hr' H' p f0 f1 r0 r1 x0 x1 := by
  refine ⟨x.h _ _ t.hp, x.h _ _ t.h0, x.h _ _ t.h1, ⟨t.a0.1, fun i r y e1 e2 => x.h _ _ (t.a0.2 i r y e1 e2)⟩, ⟨t.a1.1, fun i r y e1 e2 => x.h _ _ (t.a1.2 i r y e1 e2)⟩, t.nd, fun a ha => ?_⟩
  obtain ⟨q1, q2, o, q3⟩ := t.fr a ha
  refine ⟨q1, ?_, o, x.h _ _ q3⟩
  cases z : Hr' a with
  | none => rfl
  | some u => have := x.n a u z q2; rw [q3] at this; cases this
theorem nd_of {p f0 f1 : Addr} {r0 r1 : List Addr} (h : (p :: f0 :: f1 :: (r0 ++ r1)).Nodup) : p ≠ f0 ∧ p ≠ f1 ∧ f0 ≠ f1 ∧ (∀ r, r ∈ r0 ∨ r ∈ r1 → r ≠ p ∧ r ≠ f0 ∧ r ≠ f1) ∧ (∀ r ∈ r0, r ∉ r1) ∧ r0.Nodup ∧ r1.Nodup := by
  rw [List.nodup_cons, List.nodup_cons, List.nodup_cons, List.nodup_append] at h
  obtain ⟨g1, g2, g3, g4, g5, g6⟩ := h
  simp only [List.mem_cons, List.mem_append, not_or] at g1 g2 g3
  refine ⟨g1.1, g1.2.1, g2.1, fun r hr => ⟨fun z => ?_, fun z => ?_, fun z => ?_⟩, fun r h1 h2 => g6 r h1 r h2 rfl, g4, g5⟩
  · subst z; exact hr.elim g1.2.2.1 g1.2.2.2
  · subst z; exact hr.elim g2.2.1 g2.2.2
  · subst z; exact hr.elim g3.1 g3.2
theorem RowsX.set {H : Hp} {rs : List Addr} {xs : List (List Int)} (h : RowsX H rs xs) (nd : rs.Nodup) {j : Nat} {r : Addr} (hr : rs[j]? = some r) (y : List Int) : RowsX (upd H r (.lst (y.map V.int))) rs (xs.set j y) := by
  refine ⟨by rw [List.length_set]; exact h.1, fun i q x e1 e2 => ?_⟩
  by_cases e : q = r
  · subst e
    have hi : i = j := by
      obtain ⟨l1, k1⟩ := List.getElem?_eq_some_iff.mp e1
      obtain ⟨l2, k2⟩ := List.getElem?_eq_some_iff.mp hr
      exact (List.getElem_inj (h₀ := l1) (h₁ := l2) nd).mp (k1.trans k2.symm)
    subst hi
    have lx : i < xs.length := by rw [← h.1]; exact (List.getElem?_eq_some_iff.mp hr).1
    rw [List.getElem?_set_self lx] at e2
    cases e2
    exact upd_same
  · have hi : j ≠ i := fun z => by subst z; rw [hr] at e1; cases e1; exact e rfl
    rw [List.getElem?_set_ne hi] at e2
    rw [upd_ne e]
    exact h.2 i q x e1 e2
theorem Tr2.set1 {H0 Hr H : Hp} {p f0 f1 : Addr} {r0 r1 : List Addr} {x0 x1 : List (List Int)} (t : Tr2 H0 Hr H p f0 f1 r0 r1 x0 x1) {j : Nat} {r : Addr} (hr : r1[j]? = some r) (y : List Int) : Tr2 H0 Hr (upd H r (.lst (y.map V.int))) p f0 f1 r0 r1 x0 (x1.set j y) := by
  obtain ⟨n1, n2, n3, n4, n5, n6, n7⟩ := nd_of t.nd
  have hm := List.mem_of_getElem? hr
  obtain ⟨m1, m2, m3⟩ := n4 r (.inr hm)
  refine ⟨by rw [upd_ne (Ne.symm m1)]; exact t.hp, by rw [upd_ne (Ne.symm m2)]; exact t.h0, by rw [upd_ne (Ne.symm m3)]; exact t.h1, t.a0.same fun q hq => upd_ne fun z => by subst z; exact n5 _ hq hm, t.a1.set n7 hr y, t.nd, fun a ha => ?_⟩
  obtain ⟨q1, q2, o, q3⟩ := t.fr a ha
  by_cases e : a = r
  · subst e; exact ⟨q1, q2, _, upd_same⟩
  · exact ⟨q1, q2, o, by rw [upd_ne e]; exact q3⟩
theorem RowsX.dp {K : PySem.W.Frag} {H : Hp} : ∀ {rs : List Addr} {xs : List (List Int)}, RowsX H rs xs → DpAll K H (rs.map V.ref) (xs.map en)
  | [], [], _ => .nil
  | [], _ :: _, h => by cases h.1
  | _ :: _, [], h => by cases h.1
  | r :: rs, x :: xs, h => .cons (.lst (SqL.of (h.2 0 r x rfl rfl)) (dpa_ints x)) (RowsX.dp ⟨by simpa using h.1, fun i q y e1 e2 => h.2 (i + 1) q y (by simpa using e1) (by simpa using e2)⟩)
theorem RowsX.mns {H0 H : Hp} {rs : List Addr} {xs : List (List Int)} (h : RowsX H rs xs) (f : ∀ r ∈ rs, H0 r = none) : RowsX (mns H H0) rs xs := ⟨h.1, fun i r x e1 e2 => mns_some.mpr ⟨f r (List.mem_of_getElem? e1), h.2 i r x e1 e2⟩⟩
theorem Tr2.dp {K : PySem.W.Frag} {H0 Hr H : Hp} {p f0 f1 : Addr} {r0 r1 : List Addr} {x0 x1 : List (List Int)} (t : Tr2 H0 Hr H p f0 f1 r0 r1 x0 x1) : (aE K [x0, x1]).p (.ref p) (mns H H0) := by
  have f := fun a ha => (t.fr a ha).1
  refine .lst (SqL.of (mns_some.mpr ⟨f p (by simp), t.hp⟩)) (.cons (.lst (SqL.of (mns_some.mpr ⟨f f0 (by simp), t.h0⟩)) ?_) (.cons (.lst (SqL.of (mns_some.mpr ⟨f f1 (by simp), t.h1⟩)) ?_) .nil))
  · exact (t.a0.mns fun r hr => f r (by simp [hr])).dp
  · exact (t.a1.mns fun r hr => f r (by simp [hr])).dp
end Kj

set_option Elab.async false
set_option linter.all false
set_option maxRecDepth 100000
set_option maxHeartbeats 4000000
/-! Kj38: the def that draws two fields. -/
namespace Kj
open PySem L2
section
variable {H0 : Hp} {ρ : List Slot} {K : PySem.W.Frag} {f fa fb : Bool} {ta tb te : TE}
end
def insRd : V → List V → Hp → VK → Prop := fun x vs H Q => ∃ (l : Addr) (xs : List V) (i : Int) (y : V), x = .ref l ∧ vs = [.int i, y] ∧ H l = some (.lst xs) ∧ xs.length < sizeLine ∧ 0 ≤ i ∧ i < 2 ^ 63 ∧ Q .non (upd H l (.lst (xs.take i.toNat ++ [y] ++ xs.drop i.toNat)))
abbrev lenT (K : PySem.W.Frag) (te : TE) : TE := tCB (fun xs H Q => ∃ x n, xs = [x] ∧ LenV K x H n ∧ Q (.int n) H) (tCons te tNil)
abbrev rgT (K : PySem.W.Frag) (j : Int) : TE := tOp (rI0 fun i j => .int (i + j)) (tC (.int 1)) (tOp (rI (fun _ j => 0 < j) fun i j => .int (i % j)) (tOp (rIxL K) (tVar 1) (tC (.int j))) (tC (.int 3)))
abbrev emT (K : PySem.W.Frag) (j : Int) : TE := tLc (iRng1 (tCons (rgT K j) tNil)) (gName 3) tYes (tLst tNil) [3]
abbrev modT (a b : TE) : TE := tOp (rI (fun _ j => 0 < j) fun i j => .int (i % j)) a b
abbrev divT (a b : TE) : TE := tOp (rI CDiv fun i j => .int (i / j)) a b
abbrev cI (i : Int) : TE := tC (.int i)
abbrev drawT (K : PySem.W.Frag) : TE := tOp (rIxL K) (tVar 1) (tOp (rI0 fun i j => .int (i + j)) (cI 3) (tVar 4))
abbrev homeT (K : PySem.W.Frag) : TE := tOp (rIxL K) (tLst (tCons (divT (modT (tVar 5) (cI 5)) (cI 2)) (tCons (divT (modT (tVar 5) (cI 4)) (cI 2)) (tCons (tOp (rIxL K) (tLst (tCons (cI 0) (tCons (cI 1) (tCons (cI 0) (tCons (cI 0) (tCons (cI 2) (tCons (cI 0) (tCons (cI 0) tNil)))))))) (modT (tVar 5) (cI 7))) tNil)))) (modT (tOp (rIxL K) (tVar 1) (cI 2)) (cI 3))
abbrev rowT (K : PySem.W.Frag) : TE := tOp (rIxL K) (tOp (rIxL K) (tVar 2) (tVar 6)) (modT (divT (tVar 5) (cI 35)) (lenT K (tOp (rIxL K) (tVar 2) (tVar 6))))
abbrev insT (K : PySem.W.Frag) : TE := tBM K "list" insRd (tVar 7) (tCons (modT (divT (tVar 5) (cI 105)) (tOp (rI0 fun i j => .int (i + j)) (lenT K (tVar 7)) (cI 1))) (tCons (tVar 4) tNil))
abbrev bodyT (K : PySem.W.Frag) : TS := tSeq (tAsg (drawT K) (gName 5)) (tSeq (tAsg (homeT K) (gName 6)) (tSeq (tIfS (tTest (tOp (rI0 fun i j => .bl (decide (i < j))) (tVar 6) (cI 2)))
  (tSeq (tAsg (rowT K) (gName 7)) (tSeq (tIfS (tTest (tOp (rI0 fun i j => .bl (decide (i < j))) (lenT K (tVar 7)) (cI 12))) (tSeq (tDrop (insT K)) tNext) tNext) tNext)) tNext) tNext))
abbrev fieldsT (K : PySem.W.Frag) : TS := tSeq (tAsg (tLst (tCons (emT K 0) (tCons (emT K 1) tNil))) (gName 2)) (tSeq (tFor (iRng1 (tCons (tVar 0) tNil)) (gName 4) (bodyT K)) (tSeq (tRet (tVar 2)) tNext))
section
variable {H0 : Hp} {K : PySem.W.Frag}
abbrev rhoF (K : PySem.W.Frag) (many : Int) (d : List Int) : List Slot := [.dat (aE K many), .dat (aE K d), .no, .no, .no, .no, .no, .no]
end
end Kj

set_option Elab.async false
set_option linter.all false
set_option maxRecDepth 100000
set_option maxHeartbeats 4000000
/-! KjM0: how programs in Option are reckoned with. -/
namespace Kj
open PySem L2
theorem divI_pos {i j : Int} (h : 0 < j) (h2 : j < 1073741824) : divI i j = some (i / j) := by unfold divI; rw [if_pos ⟨h, h2⟩]
theorem modI_pos {i j : Int} (h : 0 < j) : modI i j = some (i % j) := by unfold modI; rw [if_pos h]
theorem mulI_l {i j : Int} (h : -18446744073709551616 < i) (h2 : i < 18446744073709551616) : mulI i j = some (i * j) := by unfold mulI; exact if_pos (Or.inl ⟨by simpa using h, by simpa using h2⟩)
theorem addI_eq {i j : Int} : addI i j = some (i + j) := Eq.trans rfl rfl
theorem subI_eq {i j : Int} : subI i j = some (i - j) := Eq.trans rfl rfl
theorem negI_eq {i : Int} : negI i = some (-i) := Eq.trans rfl rfl
theorem ltI_eq {i j : Int} : ltI i j = some (decide (i < j)) := Eq.trans rfl rfl
theorem leI_eq {i j : Int} : leI i j = some (decide (i ≤ j)) := Eq.trans rfl rfl
theorem gtI_eq {i j : Int} : gtI i j = some (decide (j < i)) := Eq.trans rfl rfl
theorem geI_eq {i j : Int} : geI i j = some (decide (j ≤ i)) := Eq.trans rfl rfl
theorem eqM_eq {α : Type} [DecidableEq α] {x y : α} : eqM x y = some (decide (x = y)) := Eq.trans rfl rfl
theorem neM_eq {α : Type} [DecidableEq α] {x y : α} : neM x y = some (!decide (x = y)) := Eq.trans rfl rfl
theorem inM_eq {α : Type} [DecidableEq α] {x : α} {xs : List α} : inM x xs = some (decide (x ∈ xs)) := Eq.trans rfl rfl
theorem notInM_eq {α : Type} [DecidableEq α] {x : α} {xs : List α} : notInM x xs = some (!decide (x ∈ xs)) := Eq.trans rfl rfl
section
variable {α β γ δ ε ζ : Type} {a : α} {b : β} {c : γ} {d : δ} {e : ε}
theorem c1 {g : α → Option γ} : b1 g (some a) = g a := Eq.trans rfl rfl
theorem c2 {g : α → β → Option γ} : b2 g (some a) (some b) = g a b := Eq.trans rfl rfl
theorem c3 {g : α → β → γ → Option δ} : b3 g (some a) (some b) (some c) = g a b c := Eq.trans rfl rfl
theorem c4 {g : α → β → γ → δ → Option ε} : b4 g (some a) (some b) (some c) (some d) = g a b c d := Eq.trans rfl rfl
theorem c5 {g : α → β → γ → δ → ε → Option ζ} : b5 g (some a) (some b) (some c) (some d) (some e) = g a b c d e := Eq.trans rfl rfl
theorem cmap {g : α → β} : (some a).map g = some (g a) := Eq.trans rfl rfl
theorem cbind {g : α → Option β} : (some a).bind g = g a := Eq.trans rfl rfl
end
theorem cnx {S1 S R : Type} {s : S1} {k : S1 → Option (Fl S R)} : bindF (some (.nx s)) k = k s := Eq.trans rfl rfl
theorem crt {S1 S R : Type} {r : R} {k : S1 → Option (Fl S R)} : bindF (some (.rt r)) k = some (.rt r) := Eq.trans rfl rfl
theorem cfin {S R : Type} {r : R} : finF (some (.rt r) : Option (Fl S R)) = some r := Eq.trans rfl rfl
theorem cfinN {S : Type} {r : S} : finN (some (.nx r : Fl S Unit)) = some () := Eq.trans rfl rfl
theorem cfinR {S : Type} {r : Unit} : finN (some (.rt r : Fl S Unit)) = some () := Eq.trans rfl rfl
theorem cfinO {S R : Type} {r : S} : finO (some (.nx r : Fl S (Option R))) = some none := Eq.trans rfl rfl
theorem cfinP {S R : Type} {r : Option R} : finO (some (.rt r : Fl S (Option R))) = some r := Eq.trans rfl rfl
theorem cexn {S1 S R : Type} {e : Exn} {k : S1 → Option (Fl S R)} : bindF (some (.ex e)) k = some (.ex e) := Eq.trans rfl rfl
theorem cfinX {S R : Type} {r : R} : finX (some (.rt r) : Option (Fl S R)) = some (.ok r) := Eq.trans rfl rfl
theorem cfinXe {S R : Type} {e : Exn} : finX (some (.ex e) : Option (Fl S R)) = some (.ex e) := Eq.trans rfl rfl
theorem cfinXn {S : Type} {r : S} : finXN (some (.nx r : Fl S Unit)) = some (.ok ()) := Eq.trans rfl rfl
theorem cfinXr {S : Type} {r : Unit} : finXN (some (.rt r : Fl S Unit)) = some (.ok ()) := Eq.trans rfl rfl
theorem cfinXx {S : Type} {e : Exn} : finXN (some (.ex e : Fl S Unit)) = some (.ex e) := Eq.trans rfl rfl
theorem noneM_eq : noneM = some none := Eq.trans rfl rfl
theorem andM_2 {a b : Bool} : andM (some a) (some b) = some (a && b) := by cases a <;> rfl
theorem orM_2 {a b : Bool} : orM (some a) (some b) = some (a || b) := by cases a <;> rfl
theorem notM_ss {a : Bool} : notM (some a) = some (!a) := Eq.trans rfl rfl
theorem iteM_ss {α : Type} {c : Bool} {ma mb : Option α} : iteM (some c) ma mb = if c = true then ma else mb := Eq.trans rfl rfl
theorem lenL_eq {α : Type} {xs : List α} : lenL xs = some (xs.length : Int) := Eq.trans rfl rfl
theorem cutM_eq {α : Type} {xs : List α} {lo hi : Option Int} : cutM xs lo hi = some (cutD xs lo hi) := Eq.trans rfl rfl
theorem listM_eq {α : Type} {xs : List α} : listM xs = some xs := Eq.trans rfl rfl
theorem allM_eq {bs : List Bool} : allM bs = some (bs.all id) := Eq.trans rfl rfl
theorem someM_ss {i : Int} : someM (some i) = some (some i) := Eq.trans rfl rfl
theorem revM_eq {α : Type} {xs : List α} : revM xs = some xs.reverse := Eq.trans rfl rfl
theorem consM_eq {α : Type} {x : α} {xs : List α} : consM x xs = some (x :: xs) := Eq.trans rfl rfl
theorem minI_eq {i j : Int} : minI i j = some (if j < i then j else i) := Eq.trans rfl rfl
theorem maxI_eq {i j : Int} : maxI i j = some (if j > i then j else i) := Eq.trans rfl rfl
theorem mk2_eq {α β : Type} {a : α} {b : β} : mk2 a b = some ⟨a, b⟩ := Eq.trans rfl rfl
theorem chM_i {α : Type} {g g' : α → α → Option Bool} {a b c : α} {k k' : Bool} (h : g a b = some k) (h' : g' b c = some k') : chM g g' (some a) (some b) (some c) = some (k && k') := by
  show (g a b).bind _ = _
  rw [h]
  cases k
  · rfl
  · exact h'
theorem shortM_ok {α : Type} {xs : List α} (h : xs.length ≤ 1000) : shortM xs = some xs := by unfold shortM; rw [if_pos h]
theorem catM_ok {α : Type} {xs ys : List α} (h : xs.length + ys.length ≤ 100000) : catM xs ys = some (xs ++ ys) := by unfold catM; rw [if_pos h]
theorem appM_ok {α β : Type} {xs : List α} {x : α} {k : List α → Option β} (h : xs.length < 100000) : appM xs x k = k (xs ++ [x]) := by unfold appM; rw [if_pos h]
theorem rngM_ok {j : Int} (h : -4611686018427387904 ≤ j) (h2 : j < 4611686018427387904) : rngM j = some ((List.range j.toNat).map fun n : Nat => (n : Int)) := by unfold rngM; rw [if_pos ⟨by simpa using h, by simpa using h2⟩]
theorem rng2M_ok {l j : Int} (h : 0 ≤ l) (h1 : l < 4611686018427387904) (h2 : 0 ≤ j) (h3 : j < 4611686018427387904) : rng2M l j = some ((List.range (j - l).toNat).map fun n : Nat => l + (n : Int)) := by unfold rng2M; rw [if_pos ⟨by omega, by simpa using h1, by omega, by simpa using h3⟩]
theorem atI_ok {α : Type} {xs : List α} {i : Int} {z : α} (h0 : 0 ≤ i) (h1 : i < xs.length) : atI xs i = some (xs.getD i.toNat z) := by
  rw [atI_some h0 h1, List.getD_eq_getElem?_getD, List.getElem?_eq_getElem (by omega)]
  rfl
/-! loops -/
theorem forF_ok {α S R : Type} {b : α → S → Option (Fl S R)} (P : Nat → S → Prop) : ∀ (xs : List α) (n : Nat) (s : S), P n s → (∀ i x s, xs[i]? = some x → P (n + i) s → ∃ s', b x s = some (.nx s') ∧ P (n + i + 1) s') → ∃ s', forF b xs s = some (.nx s') ∧ P (n + xs.length) s'
  | [], n, s, h, _ => ⟨s, rfl, h⟩
  | x :: xs, n, s, h, hb => by
    obtain ⟨s1, e1, h1⟩ := hb 0 x s (by simp) h
    obtain ⟨s2, e2, h2⟩ := forF_ok P xs (n + 1) s1 h1 fun i y t hy ht => by
      have := hb (i + 1) y t (by simpa using hy) (by rw [show n + (i + 1) = n + 1 + i by omega]; exact ht)
      rw [show n + 1 + i + 1 = n + (i + 1) + 1 by omega]; exact this
    refine ⟨s2, ?_, by rw [List.length_cons, show n + (xs.length + 1) = n + 1 + xs.length by omega]; exact h2⟩
    show bindF (b x s) _ = _
    rw [e1]; exact e2
theorem for_ok {α S R : Type} {b : α → S → Option (Fl S R)} {xs : List α} {s : S} (P : Nat → S → Prop) (h : P 0 s) (hb : ∀ i x s, xs[i]? = some x → P i s → ∃ s', b x s = some (.nx s') ∧ P (i + 1) s') : ∃ s', forF b xs s = some (.nx s') ∧ P xs.length s' := by
  obtain ⟨s', e, q⟩ := forF_ok P xs 0 s h fun i x s hx hp => by
    rw [Nat.zero_add] at hp ⊢; exact hb i x s hx hp
  exact ⟨s', e, by rw [Nat.zero_add] at q; exact q⟩
theorem while_ok {S R : Type} {c : S → Option Bool} {b : S → Option (Fl S R)} (P : S → Prop) (Q : S → Prop) (μ : S → Nat) (hs : ∀ s, P s → (c s = some false ∧ Q s) ∨ (c s = some true ∧ ∃ s', b s = some (.nx s') ∧ P s' ∧ μ s' < μ s)) :
    ∀ (n : Nat) (s : S), P s → μ s < n → ∃ s', whileF c b n s = some (.nx s') ∧ Q s'
  | 0, s, _, h => nomatch h
  | n + 1, s, hp, h => by
    rcases hs s hp with ⟨e, q⟩ | ⟨e, s', e2, p, l⟩
    · exact ⟨s, by show (c s).bind _ = _; rw [e]; rfl, q⟩
    · obtain ⟨s2, e3, q⟩ := while_ok P Q μ hs n s' p (by omega)
      refine ⟨s2, ?_, q⟩
      show (c s).bind _ = _
      rw [e]
      show bindF (b s) (fun s' => whileF c b n s') = _
      rw [e2]
      exact e3
theorem for_fin {α S S' R : Type} {b : α → S → Option (Fl S R)} {xs : List α} {s : S} {k : S → Option (Fl S' R)} {Q : R → Prop} (P : Nat → S → Prop) (h : P 0 s) (hb : ∀ i x s, xs[i]? = some x → P i s → ∃ s', b x s = some (.nx s') ∧ P (i + 1) s') (hk : ∀ s, P xs.length s → ∃ d, finF (k s) = some d ∧ Q d) : ∃ d, finF (bindF (forF b xs s) k) = some d ∧ Q d := by
  obtain ⟨s', e, h'⟩ := for_ok P h hb
  rw [e]; exact hk s' h'
theorem for_nx {α S S' R : Type} {b : α → S → Option (Fl S R)} {xs : List α} {s : S} {k : S → Option (Fl S' R)} {Q : S' → Prop} (P : Nat → S → Prop) (h : P 0 s) (hb : ∀ i x s, xs[i]? = some x → P i s → ∃ s', b x s = some (.nx s') ∧ P (i + 1) s') (hk : ∀ s, P xs.length s → ∃ d, k s = some (.nx d) ∧ Q d) : ∃ d, bindF (forF b xs s) k = some (.nx d) ∧ Q d := by
  obtain ⟨s', e, h'⟩ := for_ok P h hb
  rw [e]; exact hk s' h'
theorem nx_bind {S S' R : Type} {m : Option (Fl S R)} {k : S → Option (Fl S' R)} {Q : S' → Prop} (P : S → Prop) (h : ∃ s, m = some (.nx s) ∧ P s) (hk : ∀ s, P s → ∃ d, k s = some (.nx d) ∧ Q d) : ∃ d, bindF m k = some (.nx d) ∧ Q d := by
  obtain ⟨s', e, h'⟩ := h
  rw [e]; exact hk s' h'
theorem fin_bind {S S' R : Type} {m : Option (Fl S R)} {k : S → Option (Fl S' R)} {Q : R → Prop} (P : S → Prop) (h : ∃ s, m = some (.nx s) ∧ P s) (hk : ∀ s, P s → ∃ d, finF (k s) = some d ∧ Q d) : ∃ d, finF (bindF m k) = some d ∧ Q d := by
  obtain ⟨s', e, h'⟩ := h
  rw [e]; exact hk s' h'
theorem while_fin {S S' R : Type} {c : S → Option Bool} {b : S → Option (Fl S R)} {n : Nat} {s : S} {k : S → Option (Fl S' R)} {Q' : R → Prop} (P : S → Prop) (Q : S → Prop) (μ : S → Nat) (h0 : P s) (hn : μ s < n) (hs : ∀ s, P s → (c s = some false ∧ Q s) ∨ (c s = some true ∧ ∃ s', b s = some (.nx s') ∧ P s' ∧ μ s' < μ s))
    (hk : ∀ s, Q s → ∃ d, finF (k s) = some d ∧ Q' d) : ∃ d, finF (bindF (whileF c b n s) k) = some d ∧ Q' d := by
  obtain ⟨s', e, h'⟩ := while_ok P Q μ hs n s h0 hn
  rw [e]; exact hk s' h'
theorem fuelN_eq : fuelN = 100000 := by unfold fuelN; rfl
/-! comprehensions -/
theorem lcF_fm {α β : Type} {mt : α → Option Bool} {me : α → Option β} {p : α → Bool} {h : α → β} : ∀ {xs : List α}, (∀ x ∈ xs, mt x = some (p x)) → (∀ x ∈ xs, p x = true → me x = some (h x)) → lcF (fun x => lcE (mt x) (me x)) xs = some ((xs.filter p).map h)
  | [], _, _ => rfl
  | x :: xs, h1, h2 => by
    show (lcE (mt x) (me x)).bind _ = _
    have ih := lcF_fm (xs := xs) (fun y hy => h1 y (by simp [hy])) (fun y hy => h2 y (by simp [hy]))
    have e1 : mt x = some (p x) := h1 x (by simp)
    rw [ih]
    unfold lcE
    rw [e1]
    cases hp : p x with
    | true =>
      show ((me x).map some).bind _ = _
      rw [h2 x (by simp) hp, List.filter_cons_of_pos hp]
      rfl
    | false =>
      show (some none : Option (Option β)).bind _ = _
      rw [List.filter_cons_of_neg (by simp [hp])]
      rfl
theorem lc_fm {α β : Type} {mt : α → Option Bool} {me : α → Option β} {xs : List α} (p : α → Bool) (h : α → β) (hl : xs.length ≤ 100000) (h1 : ∀ x ∈ xs, mt x = some (p x)) (h2 : ∀ x ∈ xs, p x = true → me x = some (h x)) : lcM (fun x => lcE (mt x) (me x)) xs = some ((xs.filter p).map h) := by
  unfold lcM; rw [if_pos hl]; exact lcF_fm h1 h2
theorem lc_map {α β : Type} {me : α → Option β} {xs : List α} (h : α → β) (hl : xs.length ≤ 100000) (h2 : ∀ x ∈ xs, me x = some (h x)) : lcM (fun x => lcE (some true) (me x)) xs = some (xs.map h) := by
  have := lc_fm (mt := fun _ => some true) (me := me) (xs := xs) (fun _ => true) h hl (fun _ _ => rfl) (fun x hx _ => h2 x hx)
  rw [this, List.filter_eq_self.mpr fun _ _ => rfl]
theorem lc_filter {α : Type} {mt : α → Option Bool} {xs : List α} (p : α → Bool) (hl : xs.length ≤ 100000) (h1 : ∀ x ∈ xs, mt x = some (p x)) : lcM (fun x => lcE (mt x) (some x)) xs = some (xs.filter p) := by
  have := lc_fm (mt := mt) (me := fun x => some x) (xs := xs) p id hl h1 (fun x hx _ => rfl)
  rw [this]; simp
theorem lc_ex {α β : Type} {me : α → Option β} {P : β → Prop} {xs : List α} (hl : xs.length ≤ 100000) (h : ∀ x ∈ xs, ∃ y, me x = some y ∧ P y) : ∃ ys, lcM (fun x => lcE (some true) (me x)) xs = some ys ∧ ys.length = xs.length ∧ ∀ y ∈ ys, P y := by
  unfold lcM
  rw [if_pos hl]
  clear hl
  induction xs with
  | nil => exact ⟨[], rfl, rfl, fun y hy => by cases hy⟩
  | cons x xs ih =>
    obtain ⟨y, e, hy⟩ := h x (by simp)
    obtain ⟨ys, e2, l, hys⟩ := ih fun z hz => h z (by simp [hz])
    refine ⟨y :: ys, ?_, by simp [l], fun z hz => ?_⟩
    · show (lcE (some true) (me x)).bind _ = _
      rw [e, e2]; rfl
    · rcases List.mem_cons.mp hz with h | h
      · subst h; exact hy
      · exact hys z h
/-! numbers that were drawn -/
def Nm (m : Nat) (d : List Int) : Prop := m ≤ d.length ∧ ∀ x ∈ d, 0 ≤ x ∧ x < 10000
def gI (d : List Int) (i : Nat) : Int := d.getD i 0
theorem Nm.mono {m n : Nat} {d : List Int} (h : Nm m d) (hn : n ≤ m) : Nm n d := ⟨Nat.le_trans hn h.1, h.2⟩
theorem Nm.drop {m : Nat} {d : List Int} (h : Nm m d) (n : Nat) : Nm (m - n) (d.drop n) := ⟨by rw [List.length_drop]; have := h.1; omega, fun x hx => h.2 x (List.mem_of_mem_drop hx)⟩
theorem Nm.take {m : Nat} {d : List Int} (h : Nm m d) (n : Nat) (hn : n ≤ m) : Nm n (d.take n) := ⟨by rw [List.length_take]; have := h.1; omega, fun x hx => h.2 x (List.mem_of_mem_take hx)⟩
theorem gI_nn {m : Nat} {d : List Int} (h : Nm m d) (i : Nat) : 0 ≤ gI d i ∧ gI d i < 10000 := by
  unfold gI
  rw [List.getD_eq_getElem?_getD]
  cases e : d[i]? with
  | none => exact ⟨Int.le_refl _, by decide⟩
  | some x => exact h.2 x (List.mem_of_getElem? e)
theorem atI_nm {m : Nat} {d : List Int} (h : Nm m d) {i : Int} (h0 : 0 ≤ i) (h1 : i < m) : atI d i = some (gI d i.toNat) := atI_ok h0 (by have := h.1; omega)
end Kj

set_option Elab.async false
set_option linter.all false
set_option maxRecDepth 100000
set_option maxHeartbeats 4000000
/-! KjMa: what the programs of books reckon. -/
namespace Kj
open PySem L2
theorem min_if (m n : Nat) : (if (n : Int) < (m : Int) then (n : Int) else (m : Int)) = ((min m n : Nat) : Int) := by
  split <;> omega
theorem alike_eq (a b : List Str) : f_law_alike a b = some (alk a b) := by
  unfold f_law_alike alk
  simp only [c1, c2, c3, c4, c5, cmap, cbind, cnx, crt, cfin, cfinN, cfinR, cfinO, cfinP, cexn, cfinX, cfinXe, cfinXn, cfinXr, cfinXx, addI_eq, subI_eq, negI_eq, ltI_eq, leI_eq, gtI_eq, geI_eq, eqM_eq, neM_eq, inM_eq, notInM_eq, andM_2, orM_2, notM_ss, iteM_ss, lenL_eq, cutM_eq, listM_eq, allM_eq, someM_ss, noneM_eq, revM_eq, consM_eq, minI_eq, maxI_eq, mk2_eq, min_if]
  rw [cutD_to _ (by omega), cutD_to _ (by omega)]
  simp
theorem copy_eq {b : List (List Str)} (h : b.length ≤ 100000) : f_law_copy b = some b := by
  unfold f_law_copy
  simp only [c1, c2, c3, c4, c5, cmap, cbind, cnx, crt, cfin, cfinN, cfinR, cfinO, cfinP, cexn, cfinX, cfinXe, cfinXn, cfinXr, cfinXx, addI_eq, subI_eq, negI_eq, ltI_eq, leI_eq, gtI_eq, geI_eq, eqM_eq, neM_eq, inM_eq, notInM_eq, andM_2, orM_2, notM_ss, iteM_ss, lenL_eq, cutM_eq, listM_eq, allM_eq, someM_ss, noneM_eq, revM_eq, consM_eq, minI_eq, maxI_eq, mk2_eq]
  rw [lc_map (fun x => x) h fun x _ => rfl]
  simp only [c1, c2, c3, c4, c5, cmap, cbind, cnx, crt, cfin, cfinN, cfinR, cfinO, cfinP, cexn, cfinX, cfinXe, cfinXn, cfinXr, cfinXx, addI_eq, subI_eq, negI_eq, ltI_eq, leI_eq, gtI_eq, geI_eq, eqM_eq, neM_eq, inM_eq, notInM_eq, andM_2, orM_2, notM_ss, iteM_ss, lenL_eq, cutM_eq, listM_eq, allM_eq, someM_ss, noneM_eq, revM_eq, consM_eq, minI_eq, maxI_eq, mk2_eq, List.map_id']
theorem begins_eq (a b : List Str) : f_begins a b = some (decide (b.take a.length = a)) := by
  unfold f_begins
  simp only [c1, c2, c3, c4, c5, cmap, cbind, cnx, crt, cfin, cfinN, cfinR, cfinO, cfinP, cexn, cfinX, cfinXe, cfinXn, cfinXr, cfinXx, addI_eq, subI_eq, negI_eq, ltI_eq, leI_eq, gtI_eq, geI_eq, eqM_eq, neM_eq, inM_eq, notInM_eq, andM_2, orM_2, notM_ss, iteM_ss, lenL_eq, cutM_eq, listM_eq, allM_eq, someM_ss, noneM_eq, revM_eq, consM_eq, minI_eq, maxI_eq, mk2_eq]
  rw [cutD_to _ (by omega)]
  simp
theorem leS_one (c d : Nat) : leS ⟨#[c]⟩ ⟨#[d]⟩ = some (decide (c ≤ d)) := by
  unfold leS
  congr 1
  rw [Bool.eq_iff_iff]
  simp [List.cons_lt_cons_iff]
end Kj

set_option Elab.async false
set_option linter.all false
set_option maxRecDepth 100000
set_option maxHeartbeats 4000000
/-! KjMb: books asked: verses, what may come, rivals. -/
namespace Kj
open PySem L2
abbrev BL := List (List Str)
def vAt (b : BL) (n : Int) : List Str := b.getD n.toNat []
def InB (b : BL) (n : Int) : Prop := 0 ≤ n ∧ n < b.length
theorem vAt_mem {b : BL} {n : Int} (h : InB b n) : vAt b n ∈ b := getD_mem (by have := h.1; have := h.2; omega)
theorem atI_v {b : BL} {n : Int} (h : InB b n) : atI b n = some (vAt b n) := atI_ok h.1 h.2
theorem srtI_len : ∀ u : List Int, (srtI u).length ≤ u.length
  | [] => Nat.le_refl _
  | k :: u => by
    have ih := srtI_len u
    have hi : ∀ (k : Int) (xs : List Int), (insI k xs).length ≤ xs.length + 1 := by
      intro k xs
      induction xs with
      | nil => simp [insI]
      | cons x xs ih =>
        unfold insI
        split
        · simp
        · split
          · simp
          · simp only [List.length_cons]; omega
    have := hi k (srtI u)
    simp only [srtI, List.length_cons]
    omega
def meet (b : BL) (u : List Int) (h : List Str) : List Int := (srtI u).filter fun n => decide ((vAt b n).take h.length = h)
theorem mem_meet {b : BL} {u : List Int} {h : List Str} {n : Int} : n ∈ meet b u h ↔ n ∈ u ∧ (vAt b n).take h.length = h := by
  unfold meet
  rw [List.mem_filter, mem_srtI, decide_eq_true_iff]
def shr : List Str → List Str → Nat
  | x :: xs, y :: ys => if x = y then shr xs ys + 1 else 0
  | _, _ => 0
def rivB (b : BL) (v : Int) (sz : Int) (n : Int) : Bool := (!decide (n = v)) && decide (sz ≤ (shr (vAt b v) (vAt b n) : Int))
def riv (b : BL) (u : List Int) (v sz : Int) : List Int := (srtI u).filter (rivB b v sz)
/-- the size of the deciding beginning -/
def dsz (b : BL) (u : List Int) (v : Int) : Nat := (u.map fun n => if n = v then 0 else shr (vAt b v) (vAt b n) + 1).foldr max 0
def dec (b : BL) (u : List Int) (v : Int) : List Str := (vAt b v).take (dsz b u v)
end Kj

set_option Elab.async false
set_option linter.all false
set_option maxRecDepth 100000
set_option maxHeartbeats 4000000
/-! KjMc: numbers and books that are drawn. -/
namespace Kj
open PySem L2
/-! ### numbers -/
def NmR (n : Nat) (row : List Int) : Prop := row.length ≤ n ∧ ∀ x ∈ row, 0 ≤ x ∧ x < 10000
theorem NmR.app {n : Nat} {row : List Int} (h : NmR n row) {x : Int} (h0 : 0 ≤ x) (h1 : x < 10000) : NmR (n + 1) (row ++ [x]) := ⟨by simp; exact h.1, fun y hy => by
  rcases List.mem_append.mp hy with z | z
  · exact h.2 y z
  · simp at z; subst z; exact ⟨h0, h1⟩⟩
theorem NmR.mono {n m : Nat} {row : List Int} (h : NmR n row) (hm : n ≤ m) : NmR m row := ⟨Nat.le_trans h.1 hm, h.2⟩
theorem powI_18 : powI 10 18 = some 1000000000000000000 := by unfold powI; rfl
theorem numbers_ok {ns : List Int} {m : Nat} (hn : ns.length ≤ 63) (hm : m ≤ 2000) : ∃ d, f_law_numbers ns (m : Int) = some d ∧ Nm m d := by
  unfold f_law_numbers
  simp only [c1, c2, c3, c4, c5, cmap, cbind, cnx, crt, cfin, cfinN, cfinR, cfinO, cfinP, cexn, cfinX, cfinXe, cfinXn, cfinXr, cfinXx, addI_eq, subI_eq, negI_eq, ltI_eq, leI_eq, gtI_eq, geI_eq, eqM_eq, neM_eq, inM_eq, notInM_eq, andM_2, orM_2, notM_ss, iteM_ss, lenL_eq, cutM_eq, listM_eq, allM_eq, someM_ss, noneM_eq, revM_eq, consM_eq, minI_eq, maxI_eq, mk2_eq, powI_18]
  rw [rngM_ok (by omega) (by omega), cutD_to _ (by omega)]
  simp only [c1, c2, c3, c4, c5, cmap, cbind, cnx, crt, cfin, cfinN, cfinR, cfinO, cfinP, cexn, cfinX, cfinXe, cfinXn, cfinXr, cfinXx, addI_eq, subI_eq, negI_eq, ltI_eq, leI_eq, gtI_eq, geI_eq, eqM_eq, neM_eq, inM_eq, notInM_eq, andM_2, orM_2, notM_ss, iteM_ss, lenL_eq, cutM_eq, listM_eq, allM_eq, someM_ss, noneM_eq, revM_eq, consM_eq, minI_eq, maxI_eq, mk2_eq]
  refine for_fin (fun i s => NmR (61 * i) s.1 ∧ 0 ≤ s.2 ∧ s.2 < 2147483648) ⟨⟨by simp, by simp⟩, by decide, by decide⟩ ?_ ?_
  · rintro i x ⟨row, seed⟩ hx ⟨hr, hs0, hs1⟩
    have hi : i < 63 := by
      have := (List.getElem?_eq_some_iff.mp hx).1
      rw [List.length_take] at this
      omega
    dsimp only at hr hs0 hs1 ⊢
    rw [mulI_l (by omega) (by omega), modI_pos (show (0 : Int) < 999983 by omega)]
    simp only [c1, c2, c3, c4, c5, cmap, cbind, cnx, crt, cfin, cfinN, cfinR, cfinO, cfinP, cexn, cfinX, cfinXe, cfinXn, cfinXr, cfinXx, addI_eq, subI_eq, negI_eq, ltI_eq, leI_eq, gtI_eq, geI_eq, eqM_eq, neM_eq, inM_eq, notInM_eq, andM_2, orM_2, notM_ss, iteM_ss, lenL_eq, cutM_eq, listM_eq, allM_eq, someM_ss, noneM_eq, revM_eq, consM_eq, minI_eq, maxI_eq, mk2_eq]
    rw [modI_pos (show (0 : Int) < 2147483563 by omega)]
    simp only [c1, c2, c3, c4, c5, cmap, cbind, cnx, crt, cfin, cfinN, cfinR, cfinO, cfinP, cexn, cfinX, cfinXe, cfinXn, cfinXr, cfinXx, addI_eq, subI_eq, negI_eq, ltI_eq, leI_eq, gtI_eq, geI_eq, eqM_eq, neM_eq, inM_eq, notInM_eq, andM_2, orM_2, notM_ss, iteM_ss, lenL_eq, cutM_eq, listM_eq, allM_eq, someM_ss, noneM_eq, revM_eq, consM_eq, minI_eq, maxI_eq, mk2_eq]
    refine nx_bind (fun r => NmR (61 * i + 1) r) ?_ fun row1 hr1 => ?_
    · split
      · rw [modI_pos (by omega)]
        simp only [c1, c2, c3, c4, c5, cmap, cbind, cnx, crt, cfin, cfinN, cfinR, cfinO, cfinP, cexn, cfinX, cfinXe, cfinXn, cfinXr, cfinXx, addI_eq, subI_eq, negI_eq, ltI_eq, leI_eq, gtI_eq, geI_eq, eqM_eq, neM_eq, inM_eq, notInM_eq, andM_2, orM_2, notM_ss, iteM_ss, lenL_eq, cutM_eq, listM_eq, allM_eq, someM_ss, noneM_eq, revM_eq, consM_eq, minI_eq, maxI_eq, mk2_eq]
        rw [appM_ok (by have := hr.1; omega)]
        exact ⟨_, rfl, hr.app (Int.emod_nonneg _ (by omega)) (by have := Int.emod_lt_of_pos x (show (0 : Int) < 9967 by omega); omega)⟩
      · exact ⟨_, rfl, hr.mono (by omega)⟩
    refine for_nx (fun j s => NmR (61 * i + 1 + j) s.1) hr1 ?_ ?_
    · rintro j y ⟨row, rest⟩ hy hs
      have hj : j < 60 := by
        have := (List.getElem?_eq_some_iff.mp hy).1
        simp at this
        omega
      dsimp only at hs ⊢
      by_cases hp : 0 < rest
      · rw [decide_eq_true hp, if_pos rfl, modI_pos (by omega)]
        simp only [c1, c2, c3, c4, c5, cmap, cbind, cnx, crt, cfin, cfinN, cfinR, cfinO, cfinP, cexn, cfinX, cfinXe, cfinXn, cfinXr, cfinXx, addI_eq, subI_eq, negI_eq, ltI_eq, leI_eq, gtI_eq, geI_eq, eqM_eq, neM_eq, inM_eq, notInM_eq, andM_2, orM_2, notM_ss, iteM_ss, lenL_eq, cutM_eq, listM_eq, allM_eq, someM_ss, noneM_eq, revM_eq, consM_eq, minI_eq, maxI_eq, mk2_eq]
        rw [appM_ok (by have := hs.1; omega), divI_pos (by omega) (by omega)]
        simp only [c1, c2, c3, c4, c5, cmap, cbind, cnx, crt, cfin, cfinN, cfinR, cfinO, cfinP, cexn, cfinX, cfinXe, cfinXn, cfinXr, cfinXx, addI_eq, subI_eq, negI_eq, ltI_eq, leI_eq, gtI_eq, geI_eq, eqM_eq, neM_eq, inM_eq, notInM_eq, andM_2, orM_2, notM_ss, iteM_ss, lenL_eq, cutM_eq, listM_eq, allM_eq, someM_ss, noneM_eq, revM_eq, consM_eq, minI_eq, maxI_eq, mk2_eq]
        exact ⟨_, rfl, hs.app (Int.emod_nonneg _ (by omega)) (by have := Int.emod_lt_of_pos rest (show (0 : Int) < 1013 by omega); omega)⟩
      · rw [decide_eq_false hp, if_neg Bool.false_ne_true]
        exact ⟨_, rfl, hs.mono (by omega)⟩
    · rintro ⟨row2, rest2⟩ hr2
      refine ⟨_, rfl, hr2.mono ?_, Int.emod_nonneg _ (by omega), ?_⟩
      · simp; omega
      · have := Int.emod_lt_of_pos (seed * 40014 + x % 999983 + 17) (show (0 : Int) < 2147483563 by omega)
        dsimp only; omega
  · rintro ⟨row, seed⟩ h1
    have hl : row.length ≤ 61 * 63 := by
      have := h1.1.1
      have : (ns.take (63 : Int).toNat).length ≤ 63 := by rw [List.length_take]; omega
      dsimp only at *
      omega
    refine while_fin (fun s => NmR 10000 s.1 ∧ 0 ≤ s.2 ∧ s.2 < 2147483648) (fun s => NmR 10000 s.1 ∧ m ≤ s.1.length) (fun s => m - s.1.length) ⟨⟨by dsimp only; omega, h1.1.2⟩, h1.2⟩ (by rw [fuelN_eq]; dsimp only; omega) ?_ ?_
    · rintro ⟨row, seed⟩ ⟨hr, hs0, hs1⟩
      dsimp only at hr hs0 hs1 ⊢
      by_cases hp : (row.length : Int) < (m : Int)
      · refine .inr ⟨by rw [decide_eq_true hp], ?_⟩
        rw [mulI_l (i := seed) (by omega) (by omega), mulI_l (i := 52774) (by omega) (by omega), mulI_l (i := 11) (by omega) (by omega)]
        simp only [c1, c2, c3, c4, c5, cmap, cbind, cnx, crt, cfin, cfinN, cfinR, cfinO, cfinP, cexn, cfinX, cfinXe, cfinXn, cfinXr, cfinXx, addI_eq, subI_eq, negI_eq, ltI_eq, leI_eq, gtI_eq, geI_eq, eqM_eq, neM_eq, inM_eq, notInM_eq, andM_2, orM_2, notM_ss, iteM_ss, lenL_eq, cutM_eq, listM_eq, allM_eq, someM_ss, noneM_eq, revM_eq, consM_eq, minI_eq, maxI_eq, mk2_eq]
        rw [modI_pos (show (0 : Int) < 2147483629 by omega)]
        simp only [c1, c2, c3, c4, c5, cmap, cbind, cnx, crt, cfin, cfinN, cfinR, cfinO, cfinP, cexn, cfinX, cfinXe, cfinXn, cfinXr, cfinXx, addI_eq, subI_eq, negI_eq, ltI_eq, leI_eq, gtI_eq, geI_eq, eqM_eq, neM_eq, inM_eq, notInM_eq, andM_2, orM_2, notM_ss, iteM_ss, lenL_eq, cutM_eq, listM_eq, allM_eq, someM_ss, noneM_eq, revM_eq, consM_eq, minI_eq, maxI_eq, mk2_eq]
        rw [divI_pos (by omega) (by omega)]
        simp only [c1, c2, c3, c4, c5, cmap, cbind, cnx, crt, cfin, cfinN, cfinR, cfinO, cfinP, cexn, cfinX, cfinXe, cfinXn, cfinXr, cfinXx, addI_eq, subI_eq, negI_eq, ltI_eq, leI_eq, gtI_eq, geI_eq, eqM_eq, neM_eq, inM_eq, notInM_eq, andM_2, orM_2, notM_ss, iteM_ss, lenL_eq, cutM_eq, listM_eq, allM_eq, someM_ss, noneM_eq, revM_eq, consM_eq, minI_eq, maxI_eq, mk2_eq]
        rw [modI_pos (show (0 : Int) < 9967 by omega)]
        simp only [c1, c2, c3, c4, c5, cmap, cbind, cnx, crt, cfin, cfinN, cfinR, cfinO, cfinP, cexn, cfinX, cfinXe, cfinXn, cfinXr, cfinXx, addI_eq, subI_eq, negI_eq, ltI_eq, leI_eq, gtI_eq, geI_eq, eqM_eq, neM_eq, inM_eq, notInM_eq, andM_2, orM_2, notM_ss, iteM_ss, lenL_eq, cutM_eq, listM_eq, allM_eq, someM_ss, noneM_eq, revM_eq, consM_eq, minI_eq, maxI_eq, mk2_eq]
        rw [appM_ok (by omega)]
        generalize hsd : (seed * seed + 52774 * seed + 11 * (row.length : Int) + 3) % 2147483629 = sd
        have d0 : 0 ≤ sd := by rw [← hsd]; exact Int.emod_nonneg _ (by omega)
        have d1 : sd < 2147483629 := by rw [← hsd]; exact Int.emod_lt_of_pos _ (by omega)
        refine ⟨_, rfl, ⟨(((show NmR row.length row from ⟨Nat.le_refl _, hr.2⟩).app (Int.emod_nonneg _ (by omega)) (by have := Int.emod_lt_of_pos (sd / 1019) (show (0 : Int) < 9967 by omega); omega)).mono (by omega)), d0, by omega⟩, ?_⟩
        simp
        omega
      · exact .inl ⟨by rw [decide_eq_false hp], hr, by omega⟩
    · rintro ⟨row2, seed2⟩ h2
      simp only [c1, c2, c3, c4, c5, cmap, cbind, cnx, crt, cfin, cfinN, cfinR, cfinO, cfinP, cexn, cfinX, cfinXe, cfinXn, cfinXr, cfinXx, addI_eq, subI_eq, negI_eq, ltI_eq, leI_eq, gtI_eq, geI_eq, eqM_eq, neM_eq, inM_eq, notInM_eq, andM_2, orM_2, notM_ss, iteM_ss, lenL_eq, cutM_eq, listM_eq, allM_eq, someM_ss, noneM_eq, revM_eq, consM_eq, minI_eq, maxI_eq, mk2_eq]
      rw [cutD_to _ (by omega)]
      refine ⟨_, rfl, ?_, fun x hx => h2.1.2 x (List.mem_of_mem_take hx)⟩
      rw [List.length_take]
      have := h2.2
      dsimp only at *
      omega
end Kj

set_option Elab.async false
set_option linter.all false
set_option maxRecDepth 100000
set_option maxHeartbeats 4000000
/-! KjMd: books that are drawn. -/
namespace Kj
open PySem L2
theorem emod3 (n : Int) : 0 ≤ n % 3 ∧ n % 3 < 3 := ⟨Int.emod_nonneg _ (by omega), Int.emod_lt_of_pos _ (by omega)⟩
theorem letters_at {i : Int} (h0 : 0 ≤ i) (h1 : i < 26) : ∃ c : Nat, ixS ("abcdefghijklmnopqrstuvwxyz" : Str) i = some ⟨#[c]⟩ ∧ 97 ≤ c ∧ c ≤ 122 := by
  have e : ("abcdefghijklmnopqrstuvwxyz" : Str).cps.toList = (List.range 26).map (· + 97) := by decide
  unfold ixS
  rw [if_pos (by rw [sizeLine_eq]; decide), e, atI_map h0 (by simpa using h1)]
  refine ⟨_, rfl, ?_, ?_⟩
  · simp
  · simp; omega
theorem sound_ok {n : Int} (h0 : 0 ≤ n) (h1 : n < 10000) : ∃ z, f_law_sound n = some z ∧ Syl z := by
  unfold f_law_sound
  have h3 := emod3 n
  simp only [c1, c2, c3, c4, c5, cmap, cbind, cnx, crt, cfin, cfinN, cfinR, cfinO, cfinP, cexn, cfinX, cfinXe, cfinXn, cfinXr, cfinXx, addI_eq, subI_eq, negI_eq, ltI_eq, leI_eq, gtI_eq, geI_eq, eqM_eq, neM_eq, inM_eq, notInM_eq, andM_2, orM_2, notM_ss, iteM_ss, lenL_eq, cutM_eq, listM_eq, allM_eq, someM_ss, noneM_eq, revM_eq, consM_eq, minI_eq, maxI_eq, mk2_eq, divI_pos (show (0 : Int) < 3 by omega) (by omega), divI_pos (show (0 : Int) < 79 by omega) (by omega), modI_pos (show (0 : Int) < 3 by omega)]
  rw [rngM_ok (by omega) (by omega)]
  simp only [c1, c2, c3, c4, c5, cmap, cbind, cnx, crt, cfin, cfinN, cfinR, cfinO, cfinP, cexn, cfinX, cfinXe, cfinXn, cfinXr, cfinXx, addI_eq, subI_eq, negI_eq, ltI_eq, leI_eq, gtI_eq, geI_eq, eqM_eq, neM_eq, inM_eq, notInM_eq, andM_2, orM_2, notM_ss, iteM_ss, lenL_eq, cutM_eq, listM_eq, allM_eq, someM_ss, noneM_eq, revM_eq, consM_eq, minI_eq, maxI_eq, mk2_eq]
  obtain ⟨ys, e, hl, hy⟩ := lc_ex (me := fun x1 : Int => b2 ixS (some ("abcdefghijklmnopqrstuvwxyz" : Str)) (b2 modI (b2 addI (some (n / 3)) (mulI x1 (n / 79))) (some (26 : Int)))) (P := fun z : Str => ∃ c : Nat, z = ⟨#[c]⟩ ∧ 97 ≤ c ∧ c ≤ 122) (xs := (List.range (1 + n % 3).toNat).map fun n : Nat => (n : Int)) (by simp; omega) fun x hx => by
    obtain ⟨k, hk, rfl⟩ := List.mem_map.mp hx
    have := List.mem_range.mp hk
    rw [mulI_l (by omega) (by omega)]
    simp only [c1, c2, c3, c4, c5, cmap, cbind, cnx, crt, cfin, cfinN, cfinR, cfinO, cfinP, cexn, cfinX, cfinXe, cfinXn, cfinXr, cfinXx, addI_eq, subI_eq, negI_eq, ltI_eq, leI_eq, gtI_eq, geI_eq, eqM_eq, neM_eq, inM_eq, notInM_eq, andM_2, orM_2, notM_ss, iteM_ss, lenL_eq, cutM_eq, listM_eq, allM_eq, someM_ss, noneM_eq, revM_eq, consM_eq, minI_eq, maxI_eq, mk2_eq]
    rw [modI_pos (by omega)]
    simp only [c1, c2, c3, c4, c5, cmap, cbind, cnx, crt, cfin, cfinN, cfinR, cfinO, cfinP, cexn, cfinX, cfinXe, cfinXn, cfinXr, cfinXx, addI_eq, subI_eq, negI_eq, ltI_eq, leI_eq, gtI_eq, geI_eq, eqM_eq, neM_eq, inM_eq, notInM_eq, andM_2, orM_2, notM_ss, iteM_ss, lenL_eq, cutM_eq, listM_eq, allM_eq, someM_ss, noneM_eq, revM_eq, consM_eq, minI_eq, maxI_eq, mk2_eq]
    obtain ⟨c, e, hc⟩ := letters_at (i := (n / 3 + (k : Int) * (n / 79)) % 26) (Int.emod_nonneg _ (by omega)) (Int.emod_lt_of_pos _ (by omega))
    exact ⟨_, e, c, rfl, hc⟩
  rw [e]
  have hcs : ∃ cs : List Nat, ys = cs.map (fun c => (⟨#[c]⟩ : Str)) ∧ ∀ c ∈ cs, 97 ≤ c ∧ c ≤ 122 := by
    clear e hl
    induction ys with
    | nil => exact ⟨[], rfl, fun c hc => by cases hc⟩
    | cons y ys ih =>
      obtain ⟨c, e, hc⟩ := hy y (by simp)
      obtain ⟨cs, e2, hcs⟩ := ih fun z hz => hy z (by simp [hz])
      refine ⟨c :: cs, by rw [List.map_cons, ← e2, e], fun d hd => ?_⟩
      rcases List.mem_cons.mp hd with z | z
      · subst z; exact hc
      · exact hcs d z
  obtain ⟨cs, rfl, hcs⟩ := hcs
  rw [List.length_map, List.length_map, List.length_range] at hl
  simp only [c1, c2, c3, c4, c5, cmap, cbind, cnx, crt, cfin, cfinN, cfinR, cfinO, cfinP, cexn, cfinX, cfinXe, cfinXn, cfinXr, cfinXx, addI_eq, subI_eq, negI_eq, ltI_eq, leI_eq, gtI_eq, geI_eq, eqM_eq, neM_eq, inM_eq, notInM_eq, andM_2, orM_2, notM_ss, iteM_ss, lenL_eq, cutM_eq, listM_eq, allM_eq, someM_ss, noneM_eq, revM_eq, consM_eq, minI_eq, maxI_eq, mk2_eq]
  unfold joinM
  have hsum : ((cs.map fun c => (⟨#[c]⟩ : Str)).map (·.length)).sum = cs.length := by
    clear hl hcs e hy
    induction cs with
    | nil => rfl
    | cons c cs ih =>
      rw [List.map_cons, List.map_cons, List.sum_cons, ih, List.length_cons]
      show 1 + cs.length = _
      omega
  have hz : (Str.ofString "").length = 0 := by decide
  rw [if_pos (by rw [hsum, hz]; omega)]
  exact ⟨_, rfl, syl_join (by omega) (by omega) hcs⟩
def Pool (p : List Str) : Prop := p.length = 6 ∧ ∀ z ∈ p, Syl z
theorem pool_ok {d : List Int} (h : Nm 7 d) : ∃ p, f_law_pool d = some p ∧ Pool p := by
  unfold f_law_pool
  simp only [c1, c2, c3, c4, c5, cmap, cbind, cnx, crt, cfin, cfinN, cfinR, cfinO, cfinP, cexn, cfinX, cfinXe, cfinXn, cfinXr, cfinXx, addI_eq, subI_eq, negI_eq, ltI_eq, leI_eq, gtI_eq, geI_eq, eqM_eq, neM_eq, inM_eq, notInM_eq, andM_2, orM_2, notM_ss, iteM_ss, lenL_eq, cutM_eq, listM_eq, allM_eq, someM_ss, noneM_eq, revM_eq, consM_eq, minI_eq, maxI_eq, mk2_eq, atI_nm h (show (0 : Int) ≤ 0 by omega) (by omega), modI_pos (show (0 : Int) < 3 by omega)]
  rw [shortM_ok (by decide), shortM_ok (by decide)]
  simp only [c1, c2, c3, c4, c5, cmap, cbind, cnx, crt, cfin, cfinN, cfinR, cfinO, cfinP, cexn, cfinX, cfinXe, cfinXn, cfinXr, cfinXx, addI_eq, subI_eq, negI_eq, ltI_eq, leI_eq, gtI_eq, geI_eq, eqM_eq, neM_eq, inM_eq, notInM_eq, andM_2, orM_2, notM_ss, iteM_ss, lenL_eq, cutM_eq, listM_eq, allM_eq, someM_ss, noneM_eq, revM_eq, consM_eq, minI_eq, maxI_eq, mk2_eq]
  split
  · exact ⟨_, rfl, by decide, syls_ok (by decide)⟩
  · simp only [c1, c2, c3, c4, c5, cmap, cbind, cnx, crt, cfin, cfinN, cfinR, cfinO, cfinP, cexn, cfinX, cfinXe, cfinXn, cfinXr, cfinXx, addI_eq, subI_eq, negI_eq, ltI_eq, leI_eq, gtI_eq, geI_eq, eqM_eq, neM_eq, inM_eq, notInM_eq, andM_2, orM_2, notM_ss, iteM_ss, lenL_eq, cutM_eq, listM_eq, allM_eq, someM_ss, noneM_eq, revM_eq, consM_eq, minI_eq, maxI_eq, mk2_eq]
    split
    · exact ⟨_, rfl, by decide, syls_ok (by decide)⟩
    · simp only [c1, c2, c3, c4, c5, cmap, cbind, cnx, crt, cfin, cfinN, cfinR, cfinO, cfinP, cexn, cfinX, cfinXe, cfinXn, cfinXr, cfinXx, addI_eq, subI_eq, negI_eq, ltI_eq, leI_eq, gtI_eq, geI_eq, eqM_eq, neM_eq, inM_eq, notInM_eq, andM_2, orM_2, notM_ss, iteM_ss, lenL_eq, cutM_eq, listM_eq, allM_eq, someM_ss, noneM_eq, revM_eq, consM_eq, minI_eq, maxI_eq, mk2_eq]
      rw [rng2M_ok (by omega) (by omega) (by omega) (by omega)]
      simp only [c1, c2, c3, c4, c5, cmap, cbind, cnx, crt, cfin, cfinN, cfinR, cfinO, cfinP, cexn, cfinX, cfinXe, cfinXn, cfinXr, cfinXx, addI_eq, subI_eq, negI_eq, ltI_eq, leI_eq, gtI_eq, geI_eq, eqM_eq, neM_eq, inM_eq, notInM_eq, andM_2, orM_2, notM_ss, iteM_ss, lenL_eq, cutM_eq, listM_eq, allM_eq, someM_ss, noneM_eq, revM_eq, consM_eq, minI_eq, maxI_eq, mk2_eq]
      obtain ⟨ys, e, hl, hy⟩ := lc_ex (me := fun x3 : Int => b1 f_law_sound (atI d x3)) (P := Syl) (xs := (List.range (7 - 1 : Int).toNat).map fun n : Nat => (1 : Int) + (n : Int)) (by decide) fun x hx => by
        obtain ⟨k, hk, rfl⟩ := List.mem_map.mp hx
        have hk' : k < 6 := by have := List.mem_range.mp hk; omega
        rw [atI_nm h (by omega) (by omega)]
        have := gI_nn h ((1 : Int) + (k : Int)).toNat
        exact sound_ok this.1 this.2
      rw [e]
      refine ⟨_, rfl, ?_, hy⟩
      rw [hl]; decide
theorem verse_drawn {b : BL} {p : List Str} {d : List Int} (hb : ∀ v ∈ b, Ver v) (hp : 1 ≤ p.length) (hs : ∀ z ∈ p, Syl z) (hd : Nm 6 d) : ∃ v, f_law_verse b p d = some v ∧ Ver v := by
  unfold f_law_verse
  have g0 := gI_nn hd 0
  have g1 := gI_nn hd 1
  have g2 := emod3 (gI d 2)
  simp only [c1, c2, c3, c4, c5, cmap, cbind, cnx, crt, cfin, cfinN, cfinR, cfinO, cfinP, cexn, cfinX, cfinXe, cfinXn, cfinXr, cfinXx, addI_eq, subI_eq, negI_eq, ltI_eq, leI_eq, gtI_eq, geI_eq, eqM_eq, neM_eq, inM_eq, notInM_eq, andM_2, orM_2, notM_ss, iteM_ss, lenL_eq, cutM_eq, listM_eq, allM_eq, someM_ss, noneM_eq, revM_eq, consM_eq, minI_eq, maxI_eq, mk2_eq, atI_nm hd (show (0 : Int) ≤ 0 by omega) (by omega), atI_nm hd (show (0 : Int) ≤ 1 by omega) (by omega), atI_nm hd (show (0 : Int) ≤ 2 by omega) (by omega), modI_pos (show (0 : Int) < 3 by omega), modI_pos (show (0 : Int) < 4 by omega), divI_pos (show (0 : Int) < 4 by omega) (by omega)]
  rw [shortM_ok (by decide), shortM_ok (by decide), rngM_ok (by omega) (by omega)]
  simp only [c1, c2, c3, c4, c5, cmap, cbind, cnx, crt, cfin, cfinN, cfinR, cfinO, cfinP, cexn, cfinX, cfinXe, cfinXn, cfinXr, cfinXx, addI_eq, subI_eq, negI_eq, ltI_eq, leI_eq, gtI_eq, geI_eq, eqM_eq, neM_eq, inM_eq, notInM_eq, andM_2, orM_2, notM_ss, iteM_ss, lenL_eq, cutM_eq, listM_eq, allM_eq, someM_ss, noneM_eq, revM_eq, consM_eq, minI_eq, maxI_eq, mk2_eq]
  refine fin_bind (fun v : List Str => v.length ≤ 8 ∧ ∀ z ∈ v, Syl z) ?_ fun v hv => ?_
  · split
    · rename_i hc
      rw [Bool.and_eq_true] at hc
      have hne : b ≠ [] := by simpa using hc.1
      have hbl : 0 < b.length := List.length_pos_iff.mpr hne
      have m0 := Int.emod_nonneg (gI d 1) (show (b.length : Int) ≠ 0 by omega)
      have m1 := Int.emod_lt_of_pos (gI d 1) (show (0 : Int) < b.length by omega)
      rw [modI_pos (show (0 : Int) < (b.length : Int) by omega)]
      simp only [c1, c2, c3, c4, c5, cmap, cbind, cnx, crt, cfin, cfinN, cfinR, cfinO, cfinP, cexn, cfinX, cfinXe, cfinXn, cfinXr, cfinXx, addI_eq, subI_eq, negI_eq, ltI_eq, leI_eq, gtI_eq, geI_eq, eqM_eq, neM_eq, inM_eq, notInM_eq, andM_2, orM_2, notM_ss, iteM_ss, lenL_eq, cutM_eq, listM_eq, allM_eq, someM_ss, noneM_eq, revM_eq, consM_eq, minI_eq, maxI_eq, mk2_eq]
      rw [show (Int.toNat 1) = 1 from rfl, atI_v (b := b) ⟨m0, m1⟩]
      simp only [c1, c2, c3, c4, c5, cmap, cbind, cnx, crt, cfin, cfinN, cfinR, cfinO, cfinP, cexn, cfinX, cfinXe, cfinXn, cfinXr, cfinXx, addI_eq, subI_eq, negI_eq, ltI_eq, leI_eq, gtI_eq, geI_eq, eqM_eq, neM_eq, inM_eq, notInM_eq, andM_2, orM_2, notM_ss, iteM_ss, lenL_eq, cutM_eq, listM_eq, allM_eq, someM_ss, noneM_eq, revM_eq, consM_eq, minI_eq, maxI_eq, mk2_eq]
      rw [modI_pos (by omega)]
      simp only [c1, c2, c3, c4, c5, cmap, cbind, cnx, crt, cfin, cfinN, cfinR, cfinO, cfinP, cexn, cfinX, cfinXe, cfinXn, cfinXr, cfinXx, addI_eq, subI_eq, negI_eq, ltI_eq, leI_eq, gtI_eq, geI_eq, eqM_eq, neM_eq, inM_eq, notInM_eq, andM_2, orM_2, notM_ss, iteM_ss, lenL_eq, cutM_eq, listM_eq, allM_eq, someM_ss, noneM_eq, revM_eq, consM_eq, minI_eq, maxI_eq, mk2_eq]
      have hv := hb _ (vAt_mem (b := b) ⟨m0, m1⟩)
      rw [cutD_to _ (Int.emod_nonneg _ (by omega))]
      refine ⟨_, rfl, ?_, fun z hz => hv.2.2 z (List.mem_of_mem_take hz)⟩
      rw [List.length_take]
      have := hv.2.1
      omega
    · exact ⟨_, rfl, by simp, by simp⟩
  · obtain ⟨ys, e, hl, hy⟩ := lc_ex (me := fun x2 : Int => b2 atI (some p) (b1 (fun y => modI y (p.length : Int)) (atI d (3 + x2)))) (P := Syl) (xs := (List.range (1 + gI d (Int.toNat 2) % 3).toNat).map fun n : Nat => (n : Int)) (by simp; omega) fun x hx => by
      obtain ⟨k, hk, rfl⟩ := List.mem_map.mp hx
      have hk' : k < 3 := by have := List.mem_range.mp hk; have : Int.toNat 2 = 2 := rfl; rw [this] at *; omega
      rw [atI_nm hd (by omega) (by omega)]
      simp only [c1, c2, c3, c4, c5, cmap, cbind, cnx, crt, cfin, cfinN, cfinR, cfinO, cfinP, cexn, cfinX, cfinXe, cfinXn, cfinXr, cfinXx, addI_eq, subI_eq, negI_eq, ltI_eq, leI_eq, gtI_eq, geI_eq, eqM_eq, neM_eq, inM_eq, notInM_eq, andM_2, orM_2, notM_ss, iteM_ss, lenL_eq, cutM_eq, listM_eq, allM_eq, someM_ss, noneM_eq, revM_eq, consM_eq, minI_eq, maxI_eq, mk2_eq]
      rw [modI_pos (by omega)]
      simp only [c1, c2, c3, c4, c5, cmap, cbind, cnx, crt, cfin, cfinN, cfinR, cfinO, cfinP, cexn, cfinX, cfinXe, cfinXn, cfinXr, cfinXx, addI_eq, subI_eq, negI_eq, ltI_eq, leI_eq, gtI_eq, geI_eq, eqM_eq, neM_eq, inM_eq, notInM_eq, andM_2, orM_2, notM_ss, iteM_ss, lenL_eq, cutM_eq, listM_eq, allM_eq, someM_ss, noneM_eq, revM_eq, consM_eq, minI_eq, maxI_eq, mk2_eq]
      have m0 := Int.emod_nonneg (gI d (3 + (k : Int)).toNat) (show (p.length : Int) ≠ 0 by omega)
      have m1 := Int.emod_lt_of_pos (gI d (3 + (k : Int)).toNat) (show (0 : Int) < p.length by omega)
      rw [atI_ok (z := Str.empty) m0 m1]
      exact ⟨_, rfl, hs _ (getD_mem (by omega))⟩
    have e' : lcM (fun x2 : Int => lcE (some true) (b2 atI (some p) (b2 modI (atI d (3 + x2)) (some (p.length : Int))))) ((List.range (1 + gI d (Int.toNat 2) % 3).toNat).map fun n : Nat => (n : Int)) = some ys := by
      rw [← e]
      congr 1
    rw [e']
    have hl' : 1 ≤ ys.length ∧ ys.length ≤ 3 := by
      rw [hl, List.length_map, List.length_range]
      have : Int.toNat 2 = 2 := rfl
      rw [this]
      omega
    simp only [c1, c2, c3, c4, c5, cmap, cbind, cnx, crt, cfin, cfinN, cfinR, cfinO, cfinP, cexn, cfinX, cfinXe, cfinXn, cfinXr, cfinXx, addI_eq, subI_eq, negI_eq, ltI_eq, leI_eq, gtI_eq, geI_eq, eqM_eq, neM_eq, inM_eq, notInM_eq, andM_2, orM_2, notM_ss, iteM_ss, lenL_eq, cutM_eq, listM_eq, allM_eq, someM_ss, noneM_eq, revM_eq, consM_eq, minI_eq, maxI_eq, mk2_eq]
    rw [catM_ok (by omega)]
    simp only [c1, c2, c3, c4, c5, cmap, cbind, cnx, crt, cfin, cfinN, cfinR, cfinO, cfinP, cexn, cfinX, cfinXe, cfinXn, cfinXr, cfinXx, addI_eq, subI_eq, negI_eq, ltI_eq, leI_eq, gtI_eq, geI_eq, eqM_eq, neM_eq, inM_eq, notInM_eq, andM_2, orM_2, notM_ss, iteM_ss, lenL_eq, cutM_eq, listM_eq, allM_eq, someM_ss, noneM_eq, revM_eq, consM_eq, minI_eq, maxI_eq, mk2_eq]
    rw [cutD_to _ (by omega)]
    refine ⟨_, rfl, ?_, ?_, fun z hz => ?_⟩
    · rw [List.length_take, List.length_append]; omega
    · rw [List.length_take]; omega
    · rcases List.mem_append.mp (List.mem_of_mem_take hz) with q | q
      · exact hv.2 z q
      · exact hy z q
end Kj

set_option Elab.async false
set_option linter.all false
set_option maxRecDepth 100000
set_option maxHeartbeats 4000000
/-! KjMe: wide books, books, unread verses. -/
namespace Kj
open PySem L2
def wA : List Str := ["a", "b", "ab", "ba"]
def wB : List Str := ["a", "aa", "ba", "b"]
def wC : List Str := ["ka", "k", "a", "ki"]
def wD : List Str := ["ma", "a", "bab", "a", "b"]
def wAt (d : List Int) (k : Nat) : Int := (gI d 0 + (k : Int) * (1 + 2 * (gI d 1 % 32))) % 64
def wLine (d : List Int) (k : Nat) : List Str := [wA.getD (wAt d k / 16).toNat Str.empty, wB.getD (wAt d k / 4 % 4).toNat Str.empty, wC.getD (wAt d k % 4).toNat Str.empty] ++ wD.take ((gI d 2 + (k : Int) * gI d 3) % 6).toNat
theorem wAt_b (d : List Int) (k : Nat) : 0 ≤ wAt d k ∧ wAt d k < 64 := ⟨Int.emod_nonneg _ (by omega), Int.emod_lt_of_pos _ (by omega)⟩
theorem wLine_ver (d : List Int) (k : Nat) : Ver (wLine d k) := by
  have hb := wAt_b d k
  have m1 := Int.emod_nonneg (gI d 2 + (k : Int) * gI d 3) (show (6 : Int) ≠ 0 by omega)
  have m2 := Int.emod_lt_of_pos (gI d 2 + (k : Int) * gI d 3) (show (0 : Int) < 6 by omega)
  have la : wA.length = 4 := rfl
  have lb : wB.length = 4 := rfl
  have lc : wC.length = 4 := rfl
  have ld : wD.length = 5 := rfl
  refine ⟨?_, ?_, fun z hz => ?_⟩
  · simp [wLine]
  · unfold wLine
    rw [List.length_append, List.length_take, ld]
    simp
    omega
  · have sA : ∀ z ∈ wA, Syl z := syls_ok (by decide)
    have sB : ∀ z ∈ wB, Syl z := syls_ok (by decide)
    have sC : ∀ z ∈ wC, Syl z := syls_ok (by decide)
    have sD : ∀ z ∈ wD, Syl z := syls_ok (by decide)
    rcases List.mem_append.mp hz with h | h
    · rcases List.mem_cons.mp h with h | h
      · rw [h]; exact sA _ (getD_mem (by omega))
      · rcases List.mem_cons.mp h with h | h
        · rw [h]; exact sB _ (getD_mem (by omega))
        · rw [List.mem_singleton.mp h]; exact sC _ (getD_mem (by omega))
    · exact sD _ (List.mem_of_mem_take h)
theorem getD_inj {l : List Str} (hn : l.Nodup) {i j : Nat} (hi : i < l.length) (hj : j < l.length) (h : l.getD i Str.empty = l.getD j Str.empty) : i = j := by
  rw [List.getD_eq_getElem?_getD, List.getD_eq_getElem?_getD, List.getElem?_eq_getElem hi, List.getElem?_eq_getElem hj] at h
  have h' : l[i] = l[j] := h
  rcases Nat.lt_trichotomy i j with q | q | q
  · exact absurd h' (List.pairwise_iff_getElem.mp hn i j hi hj q)
  · exact q
  · exact absurd h'.symm (List.pairwise_iff_getElem.mp hn j i hj hi q)
theorem odd_mod {s : Int} (hs : s % 2 = 1) {a : Int} {i j : Nat} (hi : i < 64) (hj : j < 64) (h : (a + (i : Int) * s) % 64 = (a + (j : Int) * s) % 64) : i = j := by
  have h1 : (((i : Int) - j) * s) % 64 = 0 := by
    have e : ((i : Int) - j) * s = (a + (i : Int) * s) - (a + (j : Int) * s) := by rw [Int.sub_mul]; omega
    rw [e]
    omega
  have h2 : (64 : Int) ∣ ((i : Int) - j) * s := Int.dvd_of_emod_eq_zero h1
  have hc : Nat.Coprime (2 ^ 6) s.natAbs := Nat.Coprime.pow_left 6 (by
    rw [Nat.coprime_iff_gcd_eq_one, Nat.gcd_rec]
    have : s.natAbs % 2 = 1 := by omega
    rw [this]
    exact Nat.gcd_one_left _)
  have h4 : 2 ^ 6 ∣ ((i : Int) - j).natAbs * s.natAbs := by
    have := Int.natAbs_dvd_natAbs.mpr h2
    rw [Int.natAbs_mul] at this
    exact this
  have h3 := Nat.Coprime.dvd_of_dvd_mul_right hc h4
  omega
theorem wLine_alk {d : List Int} {i j : Nat} (hi : i < 64) (hj : j < 64) (hij : i ≠ j) : alk (wLine d i) (wLine d j) = false := by
  unfold alk
  refine decide_eq_false fun h => hij ?_
  have h3 : (wLine d i).take 3 = (wLine d j).take 3 := by
    have l1 : 3 ≤ (wLine d i).length := by simp [wLine]
    have l2 : 3 ≤ (wLine d j).length := by simp [wLine]
    have := congrArg (List.take 3) h
    rw [List.take_take, List.take_take, Nat.min_eq_left (by omega)] at this
    exact this
  have bi := wAt_b d i
  have bj := wAt_b d j
  have e3 : wA.getD (wAt d i / 16).toNat Str.empty = wA.getD (wAt d j / 16).toNat Str.empty ∧ wB.getD (wAt d i / 4 % 4).toNat Str.empty = wB.getD (wAt d j / 4 % 4).toNat Str.empty ∧ wC.getD (wAt d i % 4).toNat Str.empty = wC.getD (wAt d j % 4).toNat Str.empty := by
    simpa [wLine] using h3
  have la : wA.length = 4 := rfl
  have lb : wB.length = 4 := rfl
  have lc : wC.length = 4 := rfl
  have q1 := getD_inj (l := wA) (by decide) (by omega) (by omega) e3.1
  have q2 := getD_inj (l := wB) (by decide) (by omega) (by omega) e3.2.1
  have q3 := getD_inj (l := wC) (by decide) (by omega) (by omega) e3.2.2
  have he : wAt d i = wAt d j := by omega
  unfold wAt at he
  exact odd_mod (by omega) hi hj he
theorem wide_ok {d : List Int} {n : Nat} (hd : Nm 4 d) (hn : n ≤ 40) : f_law_wide d (n : Int) = some ((List.range n).map (wLine d)) := by
  suffices h : ∃ b, f_law_wide d (n : Int) = some b ∧ b = (List.range n).map (wLine d) by
    obtain ⟨b, e, rfl⟩ := h; exact e
  unfold f_law_wide
  have g1 := Int.emod_nonneg (gI d 1) (show (32 : Int) ≠ 0 by omega)
  have g2 := Int.emod_lt_of_pos (gI d 1) (show (0 : Int) < 32 by omega)
  simp only [c1, c2, c3, c4, c5, cmap, cbind, cnx, crt, cfin, cfinN, cfinR, cfinO, cfinP, cexn, cfinX, cfinXe, cfinXn, cfinXr, cfinXx, addI_eq, subI_eq, negI_eq, ltI_eq, leI_eq, gtI_eq, geI_eq, eqM_eq, neM_eq, inM_eq, notInM_eq, andM_2, orM_2, notM_ss, iteM_ss, lenL_eq, cutM_eq, listM_eq, allM_eq, someM_ss, noneM_eq, revM_eq, consM_eq, minI_eq, maxI_eq, mk2_eq, atI_nm hd (show (0 : Int) ≤ 0 by omega) (by omega), atI_nm hd (show (0 : Int) ≤ 1 by omega) (by omega), atI_nm hd (show (0 : Int) ≤ 2 by omega) (by omega), atI_nm hd (show (0 : Int) ≤ 3 by omega) (by omega), modI_pos (show (0 : Int) < 32 by omega), mulI_l (i := 2) (by omega) (by omega)]
  have eA : shortM (["a", "b", "ab", "ba"] : List Str) = some wA := shortM_ok (xs := wA) (by decide)
  have eB : shortM (["a", "aa", "ba", "b"] : List Str) = some wB := shortM_ok (xs := wB) (by decide)
  have eC : shortM (["ka", "k", "a", "ki"] : List Str) = some wC := shortM_ok (xs := wC) (by decide)
  have eD : shortM (["ma", "a", "bab", "a", "b"] : List Str) = some wD := shortM_ok (xs := wD) (by decide)
  rw [rngM_ok (by omega) (by omega), eA, eB, eC, eD]
  simp only [c1, c2, c3, c4, c5, cmap, cbind, cnx, crt, cfin, cfinN, cfinR, cfinO, cfinP, cexn, cfinX, cfinXe, cfinXn, cfinXr, cfinXx, addI_eq, subI_eq, negI_eq, ltI_eq, leI_eq, gtI_eq, geI_eq, eqM_eq, neM_eq, inM_eq, notInM_eq, andM_2, orM_2, notM_ss, iteM_ss, lenL_eq, cutM_eq, listM_eq, allM_eq, someM_ss, noneM_eq, revM_eq, consM_eq, minI_eq, maxI_eq, mk2_eq]
  refine for_fin (fun i s => i ≤ n → s = (List.range i).map (wLine d)) (fun _ => rfl) ?_ fun s hs => ?_
  rotate_left
  · simp only [c1, c2, c3, c4, c5, cmap, cbind, cnx, crt, cfin, cfinN, cfinR, cfinO, cfinP, cexn, cfinX, cfinXe, cfinXn, cfinXr, cfinXx, addI_eq, subI_eq, negI_eq, ltI_eq, leI_eq, gtI_eq, geI_eq, eqM_eq, neM_eq, inM_eq, notInM_eq, andM_2, orM_2, notM_ss, iteM_ss, lenL_eq, cutM_eq, listM_eq, allM_eq, someM_ss, noneM_eq, revM_eq, consM_eq, minI_eq, maxI_eq, mk2_eq]
    exact ⟨_, rfl, by rw [hs (by simp)]; simp⟩
  · intro i x s hx hs
    obtain ⟨hi, hx'⟩ := List.getElem?_eq_some_iff.mp hx
    have hi' : i < n := by simpa using hi
    have ex : x = (i : Int) := by rw [← hx']; simp
    subst ex
    have hs' := hs (by omega)
    subst hs'
    have hb := wAt_b d i
    rw [mulI_l (i := (i : Int)) (by omega) (by omega), mulI_l (i := (i : Int)) (by omega) (by omega)]
    simp only [c1, c2, c3, c4, c5, cmap, cbind, cnx, crt, cfin, cfinN, cfinR, cfinO, cfinP, cexn, cfinX, cfinXe, cfinXn, cfinXr, cfinXx, addI_eq, subI_eq, negI_eq, ltI_eq, leI_eq, gtI_eq, geI_eq, eqM_eq, neM_eq, inM_eq, notInM_eq, andM_2, orM_2, notM_ss, iteM_ss, lenL_eq, cutM_eq, listM_eq, allM_eq, someM_ss, noneM_eq, revM_eq, consM_eq, minI_eq, maxI_eq, mk2_eq]
    rw [modI_pos (show (0 : Int) < 64 by omega)]
    simp only [c1, c2, c3, c4, c5, cmap, cbind, cnx, crt, cfin, cfinN, cfinR, cfinO, cfinP, cexn, cfinX, cfinXe, cfinXn, cfinXr, cfinXx, addI_eq, subI_eq, negI_eq, ltI_eq, leI_eq, gtI_eq, geI_eq, eqM_eq, neM_eq, inM_eq, notInM_eq, andM_2, orM_2, notM_ss, iteM_ss, lenL_eq, cutM_eq, listM_eq, allM_eq, someM_ss, noneM_eq, revM_eq, consM_eq, minI_eq, maxI_eq, mk2_eq]
    rw [show (gI d (Int.toNat 0) + (i : Int) * (1 + 2 * (gI d (Int.toNat 1) % 32))) % 64 = wAt d i from rfl, divI_pos (show (0 : Int) < 16 by omega) (by omega), divI_pos (show (0 : Int) < 4 by omega) (by omega), modI_pos (show (0 : Int) < 4 by omega), modI_pos (show (0 : Int) < 6 by omega)]
    simp only [c1, c2, c3, c4, c5, cmap, cbind, cnx, crt, cfin, cfinN, cfinR, cfinO, cfinP, cexn, cfinX, cfinXe, cfinXn, cfinXr, cfinXx, addI_eq, subI_eq, negI_eq, ltI_eq, leI_eq, gtI_eq, geI_eq, eqM_eq, neM_eq, inM_eq, notInM_eq, andM_2, orM_2, notM_ss, iteM_ss, lenL_eq, cutM_eq, listM_eq, allM_eq, someM_ss, noneM_eq, revM_eq, consM_eq, minI_eq, maxI_eq, mk2_eq]
    rw [modI_pos (show (0 : Int) < 4 by omega)]
    simp only [c1, c2, c3, c4, c5, cmap, cbind, cnx, crt, cfin, cfinN, cfinR, cfinO, cfinP, cexn, cfinX, cfinXe, cfinXn, cfinXr, cfinXx, addI_eq, subI_eq, negI_eq, ltI_eq, leI_eq, gtI_eq, geI_eq, eqM_eq, neM_eq, inM_eq, notInM_eq, andM_2, orM_2, notM_ss, iteM_ss, lenL_eq, cutM_eq, listM_eq, allM_eq, someM_ss, noneM_eq, revM_eq, consM_eq, minI_eq, maxI_eq, mk2_eq]
    have la : wA.length = 4 := rfl
    have lb : wB.length = 4 := rfl
    have lc : wC.length = 4 := rfl
    have ld : wD.length = 5 := rfl
    rw [atI_ok (xs := wA) (z := Str.empty) (by omega) (by omega), atI_ok (xs := wB) (z := Str.empty) (by omega) (by omega), atI_ok (xs := wC) (z := Str.empty) (by omega) (by omega)]
    simp only [c1, c2, c3, c4, c5, cmap, cbind, cnx, crt, cfin, cfinN, cfinR, cfinO, cfinP, cexn, cfinX, cfinXe, cfinXn, cfinXr, cfinXx, addI_eq, subI_eq, negI_eq, ltI_eq, leI_eq, gtI_eq, geI_eq, eqM_eq, neM_eq, inM_eq, notInM_eq, andM_2, orM_2, notM_ss, iteM_ss, lenL_eq, cutM_eq, listM_eq, allM_eq, someM_ss, noneM_eq, revM_eq, consM_eq, minI_eq, maxI_eq, mk2_eq]
    rw [shortM_ok (by simp)]
    simp only [c1, c2, c3, c4, c5, cmap, cbind, cnx, crt, cfin, cfinN, cfinR, cfinO, cfinP, cexn, cfinX, cfinXe, cfinXn, cfinXr, cfinXx, addI_eq, subI_eq, negI_eq, ltI_eq, leI_eq, gtI_eq, geI_eq, eqM_eq, neM_eq, inM_eq, notInM_eq, andM_2, orM_2, notM_ss, iteM_ss, lenL_eq, cutM_eq, listM_eq, allM_eq, someM_ss, noneM_eq, revM_eq, consM_eq, minI_eq, maxI_eq, mk2_eq]
    rw [cutD_to _ (Int.emod_nonneg _ (by omega)), catM_ok (by rw [List.length_take, ld]; simp; omega)]
    simp only [c1, c2, c3, c4, c5, cmap, cbind, cnx, crt, cfin, cfinN, cfinR, cfinO, cfinP, cexn, cfinX, cfinXe, cfinXn, cfinXr, cfinXx, addI_eq, subI_eq, negI_eq, ltI_eq, leI_eq, gtI_eq, geI_eq, eqM_eq, neM_eq, inM_eq, notInM_eq, andM_2, orM_2, notM_ss, iteM_ss, lenL_eq, cutM_eq, listM_eq, allM_eq, someM_ss, noneM_eq, revM_eq, consM_eq, minI_eq, maxI_eq, mk2_eq]
    rw [appM_ok (by simp; omega)]
    refine ⟨_, rfl, fun _ => ?_⟩
    rw [List.range_succ, List.map_append]
    rfl
theorem wide_book {d : List Int} {n m : Nat} (h1 : 1 ≤ n) (hn : n ≤ m) (hm : m ≤ 40) : BookOk m ((List.range n).map (wLine d)) := by
  refine ⟨by simp; exact h1, by simp; exact hn, fun v hv => ?_, ?_⟩
  · obtain ⟨k, _, rfl⟩ := List.mem_map.mp hv
    exact wLine_ver d k
  · rw [List.pairwise_map]
    refine List.Pairwise.imp_of_mem ?_ (List.pairwise_lt_range (n := n))
    intro i j hi hj hij
    have := List.mem_range.mp hi
    have := List.mem_range.mp hj
    exact wLine_alk (by omega) (by omega) (by omega)
theorem book_drawn {d : List Int} {m : Nat} (h1 : 1 ≤ m) (hm : m ≤ 40) (hd : Nm (9 + 6 * m) d) : ∃ b, f_law_book d (m : Int) = some b ∧ BookOk m b := by
  unfold f_law_book
  have g0 := gI_nn hd 0
  have m0 := Int.emod_nonneg (gI d 0) (show (m : Int) ≠ 0 by omega)
  have m1 := Int.emod_lt_of_pos (gI d 0) (show (0 : Int) < m by omega)
  have g8 := gI_nn hd 8
  simp only [c1, c2, c3, c4, c5, cmap, cbind, cnx, crt, cfin, cfinN, cfinR, cfinO, cfinP, cexn, cfinX, cfinXe, cfinXn, cfinXr, cfinXx, addI_eq, subI_eq, negI_eq, ltI_eq, leI_eq, gtI_eq, geI_eq, eqM_eq, neM_eq, inM_eq, notInM_eq, andM_2, orM_2, notM_ss, iteM_ss, lenL_eq, cutM_eq, listM_eq, allM_eq, someM_ss, noneM_eq, revM_eq, consM_eq, minI_eq, maxI_eq, mk2_eq, atI_nm hd (show (0 : Int) ≤ 0 by omega) (by omega), atI_nm hd (show (0 : Int) ≤ 8 by omega) (by omega), modI_pos (show (0 : Int) < 5 by omega), divI_pos (show (0 : Int) < 5 by omega) (by omega), modI_pos (show (0 : Int) < (m : Int) by omega)]
  rw [cutD_mid _ (by omega) (by omega), cutD_mid _ (by omega) (by omega)]
  rw [show ((1 : Int) + gI d (Int.toNat 0) % (m : Int)) = (((1 + (gI d 0 % (m : Int)).toNat : Nat)) : Int) by show (1 : Int) + gI d 0 % (m : Int) = _; omega]
  generalize hq : (1 + (gI d 0 % (m : Int)).toNat : Nat) = q
  have q1 : 1 ≤ q ∧ q ≤ m := by omega
  split
  · have hd4 : Nm 4 ((d.drop (1 : Int).toNat).take ((5 : Int).toNat - (1 : Int).toNat)) := ((hd.drop 1).take 4 (by omega))
    rw [wide_ok hd4 (by omega)]
    simp only [c1, c2, c3, c4, c5, cmap, cbind, cnx, crt, cfin, cfinN, cfinR, cfinO, cfinP, cexn, cfinX, cfinXe, cfinXn, cfinXr, cfinXx, addI_eq, subI_eq, negI_eq, ltI_eq, leI_eq, gtI_eq, geI_eq, eqM_eq, neM_eq, inM_eq, notInM_eq, andM_2, orM_2, notM_ss, iteM_ss, lenL_eq, cutM_eq, listM_eq, allM_eq, someM_ss, noneM_eq, revM_eq, consM_eq, minI_eq, maxI_eq, mk2_eq]
    exact ⟨_, rfl, wide_book q1.1 q1.2 hm⟩
  · simp only [c1, c2, c3, c4, c5, cmap, cbind, cnx, crt, cfin, cfinN, cfinR, cfinO, cfinP, cexn, cfinX, cfinXe, cfinXn, cfinXr, cfinXx, addI_eq, subI_eq, negI_eq, ltI_eq, leI_eq, gtI_eq, geI_eq, eqM_eq, neM_eq, inM_eq, notInM_eq, andM_2, orM_2, notM_ss, iteM_ss, lenL_eq, cutM_eq, listM_eq, allM_eq, someM_ss, noneM_eq, revM_eq, consM_eq, minI_eq, maxI_eq, mk2_eq]
    have hd7 : Nm 7 ((d.drop (1 : Int).toNat).take ((8 : Int).toNat - (1 : Int).toNat)) := ((hd.drop 1).take 7 (by omega))
    obtain ⟨p, ep, hp⟩ := pool_ok hd7
    rw [ep]
    simp only [c1, c2, c3, c4, c5, cmap, cbind, cnx, crt, cfin, cfinN, cfinR, cfinO, cfinP, cexn, cfinX, cfinXe, cfinXn, cfinXr, cfinXx, addI_eq, subI_eq, negI_eq, ltI_eq, leI_eq, gtI_eq, geI_eq, eqM_eq, neM_eq, inM_eq, notInM_eq, andM_2, orM_2, notM_ss, iteM_ss, lenL_eq, cutM_eq, listM_eq, allM_eq, someM_ss, noneM_eq, revM_eq, consM_eq, minI_eq, maxI_eq, mk2_eq]
    have z5 := Int.emod_nonneg (gI d (Int.toNat 8)) (show (5 : Int) ≠ 0 by omega)
    rw [cutD_to _ (by omega), rngM_ok (by omega) (by omega)]
    simp only [c1, c2, c3, c4, c5, cmap, cbind, cnx, crt, cfin, cfinN, cfinR, cfinO, cfinP, cexn, cfinX, cfinXe, cfinXn, cfinXr, cfinXx, addI_eq, subI_eq, negI_eq, ltI_eq, leI_eq, gtI_eq, geI_eq, eqM_eq, neM_eq, inM_eq, notInM_eq, andM_2, orM_2, notM_ss, iteM_ss, lenL_eq, cutM_eq, listM_eq, allM_eq, someM_ss, noneM_eq, revM_eq, consM_eq, minI_eq, maxI_eq, mk2_eq]
    have hp1 : 1 ≤ (p.take (2 + gI d (Int.toNat 8) % 5).toNat).length := by rw [List.length_take, hp.1]; omega
    have hp2 : ∀ z ∈ p.take (2 + gI d (Int.toNat 8) % 5).toNat, Syl z := fun z hz => hp.2 z (List.mem_of_mem_take hz)
    refine for_fin (fun i (s : BL) => s.length ≤ i ∧ (1 ≤ i → 1 ≤ s.length) ∧ (∀ v ∈ s, Ver v) ∧ s.Pairwise (fun x y => alk x y = false)) ⟨by simp, by omega, by simp, by simp⟩ ?_ ?_
    · rintro i x s hx ⟨hl, hl1, hv, hw⟩
      obtain ⟨hi, hx'⟩ := List.getElem?_eq_some_iff.mp hx
      have hi' : i < q := by simpa using hi
      have ex : x = (i : Int) := by rw [← hx']; simp
      subst ex
      rw [mulI_l (i := 6) (by omega) (by omega)]
      simp only [c1, c2, c3, c4, c5, cmap, cbind, cnx, crt, cfin, cfinN, cfinR, cfinO, cfinP, cexn, cfinX, cfinXe, cfinXn, cfinXr, cfinXx, addI_eq, subI_eq, negI_eq, ltI_eq, leI_eq, gtI_eq, geI_eq, eqM_eq, neM_eq, inM_eq, notInM_eq, andM_2, orM_2, notM_ss, iteM_ss, lenL_eq, cutM_eq, listM_eq, allM_eq, someM_ss, noneM_eq, revM_eq, consM_eq, minI_eq, maxI_eq, mk2_eq]
      rw [cutD_mid _ (by omega) (by omega)]
      have hd6 : Nm 6 ((d.drop (9 + 6 * (i : Int)).toNat).take ((15 + 6 * (i : Int)).toNat - (9 + 6 * (i : Int)).toNat)) := by
        have := (hd.drop (9 + 6 * (i : Int)).toNat).take 6 (by omega)
        rw [show (15 + 6 * (i : Int)).toNat - (9 + 6 * (i : Int)).toNat = 6 by omega]
        exact this
      obtain ⟨v, ev, hv1⟩ := verse_drawn hv hp1 hp2 hd6
      rw [ev]
      simp only [c1, c2, c3, c4, c5, cmap, cbind, cnx, crt, cfin, cfinN, cfinR, cfinO, cfinP, cexn, cfinX, cfinXe, cfinXn, cfinXr, cfinXx, addI_eq, subI_eq, negI_eq, ltI_eq, leI_eq, gtI_eq, geI_eq, eqM_eq, neM_eq, inM_eq, notInM_eq, andM_2, orM_2, notM_ss, iteM_ss, lenL_eq, cutM_eq, listM_eq, allM_eq, someM_ss, noneM_eq, revM_eq, consM_eq, minI_eq, maxI_eq, mk2_eq]
      rw [lc_map (fun w => !alk v w) (by omega) fun w _ => by rw [alike_eq]; rfl]
      simp only [c1, c2, c3, c4, c5, cmap, cbind, cnx, crt, cfin, cfinN, cfinR, cfinO, cfinP, cexn, cfinX, cfinXe, cfinXn, cfinXr, cfinXx, addI_eq, subI_eq, negI_eq, ltI_eq, leI_eq, gtI_eq, geI_eq, eqM_eq, neM_eq, inM_eq, notInM_eq, andM_2, orM_2, notM_ss, iteM_ss, lenL_eq, cutM_eq, listM_eq, allM_eq, someM_ss, noneM_eq, revM_eq, consM_eq, minI_eq, maxI_eq, mk2_eq]
      by_cases ha : (s.map fun w => !alk v w).all id = true
      · rw [ha, if_pos rfl, appM_ok (by omega)]
        simp only [c1, c2, c3, c4, c5, cmap, cbind, cnx, crt, cfin, cfinN, cfinR, cfinO, cfinP, cexn, cfinX, cfinXe, cfinXn, cfinXr, cfinXx, addI_eq, subI_eq, negI_eq, ltI_eq, leI_eq, gtI_eq, geI_eq, eqM_eq, neM_eq, inM_eq, notInM_eq, andM_2, orM_2, notM_ss, iteM_ss, lenL_eq, cutM_eq, listM_eq, allM_eq, someM_ss, noneM_eq, revM_eq, consM_eq, minI_eq, maxI_eq, mk2_eq]
        refine ⟨_, rfl, by simp; omega, by simp, fun w hw' => ?_, ?_⟩
        · rcases List.mem_append.mp hw' with z | z
          · exact hv w z
          · rw [List.mem_singleton.mp z]; exact hv1
        · rw [List.pairwise_append]
          refine ⟨hw, by simp, fun x hx y hy => ?_⟩
          rw [List.mem_singleton.mp hy]
          have := List.all_eq_true.mp ha _ (List.mem_map.mpr ⟨x, hx, rfl⟩)
          rw [alk_comm]
          simpa using this
      · rw [Bool.not_eq_true] at ha
        rw [ha, if_neg Bool.false_ne_true]
        simp only [c1, c2, c3, c4, c5, cmap, cbind, cnx, crt, cfin, cfinN, cfinR, cfinO, cfinP, cexn, cfinX, cfinXe, cfinXn, cfinXr, cfinXx, addI_eq, subI_eq, negI_eq, ltI_eq, leI_eq, gtI_eq, geI_eq, eqM_eq, neM_eq, inM_eq, notInM_eq, andM_2, orM_2, notM_ss, iteM_ss, lenL_eq, cutM_eq, listM_eq, allM_eq, someM_ss, noneM_eq, revM_eq, consM_eq, minI_eq, maxI_eq, mk2_eq]
        refine ⟨_, rfl, by omega, fun _ => ?_, hv, hw⟩
        cases s with
        | nil => simp at ha
        | cons _ _ => simp
    · rintro s ⟨hl, hl1, hv, hw⟩
      simp only [c1, c2, c3, c4, c5, cmap, cbind, cnx, crt, cfin, cfinN, cfinR, cfinO, cfinP, cexn, cfinX, cfinXe, cfinXn, cfinXr, cfinXx, addI_eq, subI_eq, negI_eq, ltI_eq, leI_eq, gtI_eq, geI_eq, eqM_eq, neM_eq, inM_eq, notInM_eq, andM_2, orM_2, notM_ss, iteM_ss, lenL_eq, cutM_eq, listM_eq, allM_eq, someM_ss, noneM_eq, revM_eq, consM_eq, minI_eq, maxI_eq, mk2_eq]
      have hql : ((List.range ((q : Nat) : Int).toNat).map fun n : Nat => (n : Int)).length = q := by simp
      rw [hql] at hl hl1
      exact ⟨_, rfl, hl1 q1.1, by omega, hv, hw⟩
theorem pick3 {a b c : Nat} (x : Int) : ∃ m : Nat, atI [(a : Int), (b : Int), (c : Int)] (x % 3) = some (m : Int) ∧ min a (min b c) ≤ m ∧ m ≤ max a (max b c) := by
  have h := emod3 x
  rcases (show x % 3 = 0 ∨ x % 3 = 1 ∨ x % 3 = 2 by omega) with e | e | e
  · rw [e]; exact ⟨a, rfl, by omega, by omega⟩
  · rw [e]; exact ⟨b, rfl, by omega, by omega⟩
  · rw [e]; exact ⟨c, rfl, by omega, by omega⟩
def Unr (m : Nat) (u : List Int) : Prop := u.length ≤ m + 2 ∧ ∀ n ∈ u, 0 ≤ n ∧ n < (m : Int)
end Kj

set_option Elab.async false
set_option linter.all false
set_option maxRecDepth 100000
set_option maxHeartbeats 4000000
/-! KjMf: a book that is drawn and asked, as laws begin; hurdles. -/
namespace Kj
open PySem L2
def hur (b : BL) (u : List Int) (v : Int) : List (List Int) := (List.range (dsz b u v)).map fun s : Nat => riv b u v (s : Int)
theorem BookOk.mono {m n : Nat} {b : BL} (h : BookOk m b) (hm : m ≤ n) : BookOk n b := ⟨h.1, Nat.le_trans h.2.1 hm, h.2.2⟩
end Kj

set_option Elab.async false
set_option linter.all false
set_option maxRecDepth 100000
set_option maxHeartbeats 4000000
/-! KjMg: what may be heard next. -/
namespace Kj
open PySem L2
def gst (b : BL) (sz : Nat) (c : Ct) (n : Int) : Ct := if sz < (vAt b n).length then cput c ((vAt b n).getD sz Str.empty) ((cget c ((vAt b n).getD sz Str.empty)).getD 0 + 1) else c
def gos (b : BL) (u : List Int) (h : List Str) : Ct := (meet b u h).foldl (gst b h.length) []
theorem meet_len (b : BL) (u : List Int) (h : List Str) : (meet b u h).length ≤ u.length := Nat.le_trans (List.length_filter_le _ _) (srtI_len u)
end Kj

set_option Elab.async false
set_option linter.all false
set_option maxRecDepth 100000
set_option maxHeartbeats 4000000
namespace Kj
open PySem L2
end Kj

set_option Elab.async false
set_option linter.all false
set_option maxRecDepth 100000
set_option maxHeartbeats 4000000
/-! KjMi: the tree of beginnings. -/
namespace Kj
open PySem L2
def nxt (b : BL) (sz : Nat) (s : Str) (n : Int) : Bool := decide (sz < (vAt b n).length) && decide ((vAt b n).getD sz Str.empty = s)
def cnt (b : BL) (sz : Nat) (s : Str) (ns : List Int) : Nat := (ns.filter (nxt b sz s)).length
structure GInv (b : BL) (sz : Nat) (dn : List Int) (c : Ct) : Prop where
  nd : (c.map P2.a).Nodup
  val : ∀ p ∈ c, p.b = (cnt b sz p.a dn : Int) ∧ 0 < cnt b sz p.a dn
  all : ∀ s, 0 < cnt b sz s dn → s ∈ c.map P2.a
theorem cnt_snoc (b : BL) (sz : Nat) (s : Str) (dn : List Int) (n : Int) : cnt b sz s (dn ++ [n]) = cnt b sz s dn + if nxt b sz s n = true then 1 else 0 := by
  unfold cnt
  rw [List.filter_append, List.length_append]
  congr 1
  by_cases h : nxt b sz s n = true
  · rw [if_pos h, List.filter_cons_of_pos h]; rfl
  · rw [if_neg h, List.filter_cons_of_neg h]; rfl
theorem GInv.step {b : BL} {sz : Nat} {dn : List Int} {c : Ct} (g : GInv b sz dn c) (n : Int) : GInv b sz (dn ++ [n]) (gst b sz c n) := by
  unfold gst
  by_cases h : sz < (vAt b n).length
  · rw [if_pos h]
    have hx : ∀ s, nxt b sz s n = true ↔ s = (vAt b n).getD sz Str.empty := fun s => by
      unfold nxt
      rw [Bool.and_eq_true, decide_eq_true_iff, decide_eq_true_iff]
      exact ⟨fun z => z.2.symm, fun z => ⟨h, z.symm⟩⟩
    generalize (vAt b n).getD sz Str.empty = s0 at hx ⊢
    have c0 : cnt b sz s0 (dn ++ [n]) = cnt b sz s0 dn + 1 := by rw [cnt_snoc, if_pos ((hx s0).mpr rfl)]
    have c1' : ∀ s, s ≠ s0 → cnt b sz s (dn ++ [n]) = cnt b sz s dn := fun s hs => by rw [cnt_snoc, if_neg (fun z => hs ((hx s).mp z))]; rfl
    have hget : (cget c s0).getD 0 = (cnt b sz s0 dn : Int) := by
      unfold cget
      cases hf : c.find? fun p => decide (p.a = s0) with
      | none =>
        have hn : s0 ∉ c.map P2.a := fun z => by
          obtain ⟨p, hp, e⟩ := List.mem_map.mp z
          have := List.find?_eq_none.mp hf p hp
          simp [e] at this
        have : cnt b sz s0 dn = 0 := by
          rcases Nat.eq_zero_or_pos (cnt b sz s0 dn) with z | z
          · exact z
          · exact (hn (g.all s0 z)).elim
        rw [this]; rfl
      | some p =>
        have h1 := List.mem_of_find?_eq_some hf
        have h2 : p.a = s0 := by have := List.find?_some hf; simpa using this
        have := (g.val p h1).1
        rw [h2] at this
        exact this
    rw [hget]
    unfold cput
    by_cases ha : (c.any fun p => decide (p.a = s0)) = true
    · rw [if_pos ha]
      have ek : (c.map fun p => if p.a = s0 then (⟨p.a, (cnt b sz s0 dn : Int) + 1⟩ : P2 Str Int) else p).map P2.a = c.map P2.a := by
        rw [List.map_map]
        apply List.map_congr_left
        intro p _
        show (if p.a = s0 then (⟨p.a, (cnt b sz s0 dn : Int) + 1⟩ : P2 Str Int) else p).a = p.a
        split <;> rfl
      refine ⟨by rw [ek]; exact g.nd, fun p hp => ?_, fun s hs => ?_⟩
      · obtain ⟨q, hq, rfl⟩ := List.mem_map.mp hp
        by_cases hqs : q.a = s0
        · rw [if_pos hqs]
          show _ = ((cnt b sz q.a (dn ++ [n]) : Nat) : Int) ∧ 0 < cnt b sz q.a (dn ++ [n])
          rw [hqs, c0]
          exact ⟨by push_cast; rfl, by omega⟩
        · rw [if_neg hqs, c1' _ hqs]; exact g.val q hq
      · rw [ek]
        by_cases hss : s = s0
        · obtain ⟨p, hp, e⟩ := List.any_eq_true.mp ha
          exact List.mem_map.mpr ⟨p, hp, by rw [hss]; simpa using e⟩
        · rw [c1' _ hss] at hs; exact g.all s hs
    · rw [if_neg ha]
      have hn : s0 ∉ c.map P2.a := fun z => by
        obtain ⟨p, hp, e⟩ := List.mem_map.mp z
        exact ha (List.any_eq_true.mpr ⟨p, hp, by simpa using e⟩)
      refine ⟨?_, fun p hp => ?_, fun s hs => ?_⟩
      · rw [List.map_append, List.nodup_append]
        refine ⟨g.nd, by simp, fun x hx y hy e => ?_⟩
        have : y = s0 := by simpa using hy
        rw [e, this] at hx
        exact hn hx
      · rcases List.mem_append.mp hp with hp | hp
        · have hne : p.a ≠ s0 := fun z => hn (List.mem_map.mpr ⟨p, hp, z⟩)
          rw [c1' _ hne]; exact g.val p hp
        · rw [List.mem_singleton.mp hp]
          show _ = ((cnt b sz s0 (dn ++ [n]) : Nat) : Int) ∧ 0 < cnt b sz s0 (dn ++ [n])
          rw [c0]
          exact ⟨by push_cast; rfl, by omega⟩
      · rw [List.map_append]
        by_cases hss : s = s0
        · rw [hss]; simp
        · rw [c1' _ hss] at hs; exact List.mem_append_left _ (g.all s hs)
  · rw [if_neg h]
    have hx : ∀ s, ¬ nxt b sz s n = true := fun s z => by
      unfold nxt at z
      rw [Bool.and_eq_true, decide_eq_true_iff] at z
      exact h z.1
    have c1' : ∀ s, cnt b sz s (dn ++ [n]) = cnt b sz s dn := fun s => by rw [cnt_snoc, if_neg (hx s)]; rfl
    exact ⟨g.nd, fun p hp => by rw [c1']; exact g.val p hp, fun s hs => by rw [c1'] at hs; exact g.all s hs⟩
end Kj

set_option Elab.async false
set_option linter.all false
set_option maxRecDepth 100000
set_option maxHeartbeats 4000000
namespace Kj
open PySem L2
structure DealT where
  source : BookT
  fields : List (List (List Int))
  deriving DecidableEq
abbrev cDeal (K : PySem.W.Frag) : Addr := He.ga K "Deal"
abbrev oDeal (K : PySem.W.Frag) (d : DealT) : List (Str × Abs) := [("source", aBook K d.source), ("fields", aE K d.fields)]
abbrev aDeal (K : PySem.W.Frag) (d : DealT) : Abs := aIns (cDeal K) (oDeal K d)
def f_law_copy_I (v_law_rows : (List (List Int))) : Option (List (List Int)) := finF (S := Unit) (R := (List (List Int))) 
  (b1 (fun r => some (Fl.rt r)) (b1 (lcM fun x1 => lcE (some true) (b1 listM (some x1))) (some v_law_rows)))
def f_copied (v_rows : (List (List Int))) : Option (List (List Int)) := finF (S := Unit) (R := (List (List Int))) 
  (b1 (fun r => some (Fl.rt r)) (b1 (lcM fun x1 => lcE (some true) (b1 listM (some x1))) (some v_rows)))
def f_check_fields (v_book : BookT) (v_fields : (List (List (List Int)))) : Option Unit := finN (S := Unit) 
  (bindF (S1 := Unit) (b1 (fun xs => forF (fun x2 s1 => (bindF (S1 := Unit) (iteM (notM (chM leI leI (some (1 : Int)) (b1 lenL (some x2)) (some (3 : Int))))
    none
    (some (Fl.nx ()))) fun s6 => (bindF (S1 := Unit) (iteM (b1 anyM (b1 (lcM fun x7 => lcE (some true) (b2 gtI (b1 lenL (some x7)) (some (12 : Int)))) (some x2)))
    none
    (some (Fl.nx ()))) fun s8 => (some (Fl.nx ()))))) xs ()) (some v_fields)) fun s1 => (b1 (fun v_lying => (bindF (S1 := Unit) (iteM (notM (b1 allM (b1 (lcM fun x12 => lcE (some true) (chM leI ltI (some (0 : Int)) (some x12) (b1 f_Book_many (some v_book) ))) (some v_lying))))
    none
    (some (Fl.nx ()))) fun s13 => (bindF (S1 := Unit) (iteM (b2 ltI (b1 lenSetIM (some v_lying)) (b1 lenL (some v_lying)))
    none
    (some (Fl.nx ()))) fun s14 => (some (Fl.nx ())))))
    (b1 lim (b1 (catF fun x9 => iteM (some true) (b1 (catF fun x10 => iteM (some true) (b1 (catF fun x11 => iteM (some true) (b1 one1 (some x11)) (some [])) (some x10)) (some [])) (some x9)) (some [])) (some v_fields)))))
def f_Deal___init__ (v_book : BookT) (v_zero : (List (List Int))) (v_one : (List (List Int))) : Option DealT := finI (R := Unit)
  (b1 (fun _ => (b1 (fun y0 => (b1 (fun y1 => (some (Fl.nx (⟨y0, y1⟩ : DealT)))) (b1 shortM (b2 consM (b1 f_copied (some v_zero)) (b2 consM (b1 f_copied (some v_one)) (some ([] : List (List (List Int))))))))) (some v_book))) (b2 f_check_fields (some v_book) (b1 shortM (b2 consM (some v_zero) (b2 consM (some v_one) (some ([] : List (List (List Int)))))))))
def f_Deal_book (v_self : DealT) : Option BookT := finF (S := Unit) (R := BookT) 
  (b1 (fun r => some (Fl.rt r)) ((some v_self).map DealT.source))
def f_check_field (v_field : Int) : Option Unit := finN (S := Unit) 
  (bindF (S1 := Unit) (iteM (notM (chM leI leI (some (0 : Int)) (some v_field) (some (1 : Int))))
    none
    (some (Fl.nx ()))) fun s1 => (some (Fl.nx ())))
def f_Deal_rows (v_self : DealT) (v_field : Int) : Option (List (List Int)) := finF (S := Unit) (R := (List (List Int))) 
  (b1 (fun _ => (b1 (fun r => some (Fl.rt r)) (b1 f_copied (b2 atI ((some v_self).map DealT.fields) (some v_field))))) (b1 f_check_field (some v_field)))
def f_Deal_cards (v_self : DealT) (v_field : Int) : Option (List Int) := finF (S := Unit) (R := (List Int)) 
  (b1 (fun r => some (Fl.rt r)) (b1 lim (b1 (catF fun x1 => iteM (some true) (b1 (catF fun x2 => iteM (some true) (b1 one1 (some x2)) (some [])) (some x1)) (some [])) (b2 f_Deal_rows (some v_self) (some v_field)))))
def f_strays (v_deal : DealT) (v_verses : (List Int)) (v_field : Int) : Option (List Int) := finF (S := Unit) (R := (List Int)) 
  (b1 (fun v_lying => (b1 (fun r => some (Fl.rt r)) (b1 (lcM fun x1 => lcE (b2 notInM (some x1) (some v_lying)) (some x1)) (some v_verses))))
    (b2 f_Deal_cards (some v_deal) (some v_field)))
def f_faultless (v_deal : DealT) (v_unread : (List Int)) (v_heard : (List Str)) : Option (List Int) := finF (S := Unit) (R := (List Int)) 
  (b1 (fun v_coming => (b1 (fun r => some (Fl.rt r)) (b1 (lcM fun x1 => lcE (notM ((b3 f_strays (some v_deal) (some v_coming) (some x1)).map fun xs => !xs.isEmpty)) (some x1)) (b1 rngM (some (2 : Int))))))
    (b3 f_meeting (b1 f_Deal_book (some v_deal) ) (some v_unread) (some v_heard)))
def f_law_heard (v_law_verses : (List (List Str))) (v_law_d : (List Int)) : Option (List Str) := finF (S := Unit) (R := (List Str)) 
  (b1 (fun v_law_line => (b1 (fun v_law_heard_here => (bindF (S1 := (List Str)) (iteM (b2 eqM (b2 modI (b2 atI (some v_law_d) (some (2 : Int))) (some (7 : Int))) (some (6 : Int)))
    (b1 (fun v_law_at => (b1 (fun v_law_heard_here => (some (Fl.nx v_law_heard_here)))
    (b2 catM (b2 catM (b3 cutM (some v_law_heard_here) noneM (someM (some v_law_at))) (b1 shortM (b2 consM (b2 atI (b1 shortM (b2 consM (some ("" : Str)) (b2 consM (some ("a" : Str)) (b2 consM (some ("zzz" : Str)) (b2 consM (b2 atI (some v_law_line) (b1 negI (some (1 : Int)))) (b2 consM (some ("Ab" : Str)) (some ([] : List Str)))))))) (b2 modI (b2 divI (b2 atI (some v_law_d) (some (2 : Int))) (some (7 : Int))) (some (5 : Int)))) (some ([] : List Str))))) (b3 cutM (some v_law_heard_here) (someM (some v_law_at)) noneM))))
    (b2 modI (b2 divI (b2 atI (some v_law_d) (some (2 : Int))) (some (35 : Int))) (b2 addI (b1 lenL (some v_law_heard_here)) (some (1 : Int)))))
    (some (Fl.nx v_law_heard_here))) fun s1 => (b1 (fun r => some (Fl.rt r)) (some s1))))
    (b3 cutM (some v_law_line) noneM (someM (b2 modI (b2 atI (some v_law_d) (some (1 : Int))) (b2 addI (b1 lenL (some v_law_line)) (some (1 : Int))))))))
    (b2 atI (some v_law_verses) (b2 modI (b2 atI (some v_law_d) (some (0 : Int))) (b1 lenL (some v_law_verses)))))
def f_law_meet (v_law_verses : (List (List Str))) (v_law_unread_here : (List Int)) (v_law_heard_here : (List Str)) : Option (List Int) := finF (S := Unit) (R := (List Int)) 
  (b1 (fun v_law_size => (b1 (fun r => some (Fl.rt r)) (b1 (lcM fun x1 => lcE (andM (b2 inM (some x1) (some v_law_unread_here)) (b2 eqM (b3 cutM (b2 atI (some v_law_verses) (some x1)) noneM (someM (some v_law_size))) (some v_law_heard_here))) (some x1)) (b1 rngM (b1 lenL (some v_law_verses))))))
    (b1 lenL (some v_law_heard_here)))
def f_law_made (v_law_book_here : BookT) (v_law_rows : (List (List (List Int)))) : Option DealT := finF (S := Unit) (R := DealT) 
  (b1 (fun r => some (Fl.rt r)) (b3 f_Deal___init__ (some v_law_book_here) (b1 f_law_copy_I (b2 atI (some v_law_rows) (some (0 : Int)))) (b1 f_law_copy_I (b2 atI (some v_law_rows) (some (1 : Int))))))
def f_law_home (v_law_rows : (List (List (List Int)))) (v_law_verse_here : Int) : Option Int := finF (S := Unit) (R := Int) 
  (b1 (fun v_law_fields_here => (b1 (fun r => some (Fl.rt r)) (b2 atI (b2 catM (some v_law_fields_here) (b1 shortM (b2 consM (b1 negI (some (1 : Int))) (some ([] : List Int))))) (some (0 : Int)))))
    (b1 (lcM fun x1 => lcE (b1 anyM (b1 (lcM fun x2 => lcE (some true) (b2 inM (some v_law_verse_here) (some x2))) (b2 atI (some v_law_rows) (some x1)))) (some x1)) (b1 rngM (some (2 : Int)))))
def f_law_scene (v_law_numbers_here : (List Int)) (v_law_most : Int) : Option (P3 (List (List Str)) (List (List (List Int))) (List Int)) := finF (S := Unit) (R := (P3 (List (List Str)) (List (List (List Int))) (List Int))) 
  (b1 (fun v_law_verses => (b1 (fun v_law_rows => (b1 (fun v_law_unread_here => (b1 (fun r => some (Fl.rt r)) (b3 mk3 (some v_law_verses) (some v_law_rows) (some v_law_unread_here))))
    (b2 f_law_unread (b1 lenL (some v_law_verses)) (b3 cutM (some v_law_numbers_here) (someM (b2 addI (some (30 : Int)) (b2 mulI (some (7 : Int)) (some v_law_most)))) noneM))))
    (b2 f_law_fields (b1 lenL (some v_law_verses)) (b3 cutM (some v_law_numbers_here) (someM (b2 addI (some (20 : Int)) (b2 mulI (some (6 : Int)) (some v_law_most)))) noneM))))
    (b2 f_law_book (b3 cutM (some v_law_numbers_here) (someM (some (2 : Int))) noneM) (some v_law_most)))
def f_law_on (v_law_rows : (List (List (List Int)))) (v_law_some : (List Int)) (v_law_field : Int) : Option Bool := finF (S := Unit) (R := Bool) 
  (b1 (fun r => some (Fl.rt r)) (b1 allM (b1 (lcM fun x1 => lcE (some true) (b2 eqM (b2 f_law_home (some v_law_rows) (some x1)) (some v_law_field))) (some v_law_some))))
def f_law_free (v_law_verses : (List (List Str))) (v_law_rows : (List (List (List Int)))) (v_law_unread_here : (List Int)) (v_law_heard_here : (List Str)) : Option (List Int) := finF (S := Unit) (R := (List Int)) 
  (b1 (fun v_law_coming => (b1 (fun r => some (Fl.rt r)) (b1 (lcM fun x1 => lcE (b3 f_law_on (some v_law_rows) (some v_law_coming) (some x1)) (some x1)) (b1 rngM (some (2 : Int))))))
    (b3 f_law_meet (some v_law_verses) (some v_law_unread_here) (some v_law_heard_here)))
end Kj

set_option Elab.async false
set_option linter.all false
set_option maxRecDepth 100000
set_option maxHeartbeats 4000000
/-! Kj39: max and min of numbers, with default=. -/
namespace Kj
open PySem PySem.SeqAt PySem.W PyProof.Rows L2
def rMnMx (K : PySem.W.Frag) (f : Int → Int → Int) : List V → List V → Hp → VK → Prop := fun vs zs H Q => ∃ (a : Addr) (ns : List Int) (z : V), vs = [V.ref a] ∧ zs = [z] ∧ SqL K H a (ns.map V.int) ∧ (ns = [] → Q z H) ∧ ∀ n r, ns = n :: r → Q (.int (r.foldl f n)) H
def mxD (ns : List Int) (z : Int) : Option Int := some (match ns with | [] => z | n :: r => r.foldl max n)
def mnDO (ns : List Int) (z : Option Int) : Option (Option Int) := some (match ns with | [] => z | n :: r => some (r.foldl min n))
section
variable {H0 : Hp} {ρ : List Slot} {K : PySem.W.Frag} {f fa fb : Bool} {te td : TE}
end
end Kj

set_option Elab.async false
set_option linter.all false
set_option maxRecDepth 100000
set_option maxHeartbeats 4000000
namespace Kj
open PySem L2
def f_Deal_where (v_self : DealT) (v_verse : Int) : Option (Option (P3 Int Int Int)) := finF (S := Unit) (R := (Option (P3 Int Int Int))) 
  (b1 (fun _ => (bindF (S1 := Unit) (b1 (fun xs => forF (fun x2 s1 => (bindF (S1 := Unit) (b1 (fun xs => forF (fun x8 s7 => (bindF (S1 := Unit) (iteM (b2 inM (some v_verse) (some x8.b))
    (b1 (fun r => some (Fl.rt r)) ((b3 mk3 (some x2.a) (some x8.a) (b2 idxM (some x8.b) (some v_verse))).map some))
    (some (Fl.nx ()))) fun s10 => (some (Fl.nx ())))) xs ()) (b1 enumM (some x2.b))) fun s7 => (some (Fl.nx ())))) xs ()) (b1 enumM ((some v_self).map DealT.fields))) fun s1 => (b1 (fun r => some (Fl.rt r)) (some (none : (Option (P3 Int Int Int))))))) (b2 f_check_verse ((some v_self).map DealT.source) (some v_verse)))
def f_card_field (v_deal : DealT) (v_verse : Int) : Option Int := finF (S := Unit) (R := Int) 
  (b1 (fun v_spot => (bindF (S1 := Unit) (iteM ((some v_spot).map Option.isNone)
    none
    (some (Fl.nx ()))) fun s1 => (b1 (fun r => some (Fl.rt r)) (((some v_spot).bind id).map P3.a))))
    (b2 f_Deal_where (some v_deal) (some v_verse)))
def f_moment (v_deal : DealT) (v_unread : (List Int)) (v_verse : Int) : Option Int := finF (S := Unit) (R := Int) 
  (b1 (fun v_book => (b1 (fun v_others => (b1 (fun v_field => (b1 (fun r => some (Fl.rt r)) (b2 mxD (b1 (lcM fun x1 => lcE (some true) (b2 addI (b3 f_shared (some v_book) (some v_verse) (some x1)) (some (1 : Int)))) (b3 f_strays (some v_deal) (some v_others) (some v_field))) (some (0 : Int)))))
    (b2 f_card_field (some v_deal) (some v_verse))))
    (b4 f_rivals (some v_book) (some v_unread) (some v_verse) (some (0 : Int)))))
    (b1 f_Deal_book (some v_deal) ))
def f_law_rivals (v_law_verses : (List (List Str))) (v_law_unread_here : (List Int)) (v_law_verse_here : Int) (v_law_size : Int) : Option (List Int) := finF (S := Unit) (R := (List Int)) 
  (b1 (fun v_law_row => (b1 (fun r => some (Fl.rt r)) (b1 (lcM fun x2 => lcE (b2 geI (b3 f_law_share (some v_law_verses) (some v_law_verse_here) (some x2)) (some v_law_size)) (some x2)) (some v_law_row))))
    (b1 (lcM fun x1 => lcE (andM (b2 inM (some x1) (some v_law_unread_here)) (b2 neM (some x1) (some v_law_verse_here))) (some x1)) (b1 rngM (b1 lenL (some v_law_verses)))))
def f_law_moment (v_law_verses : (List (List Str))) (v_law_rows : (List (List (List Int)))) (v_law_unread_here : (List Int)) (v_law_verse_here : Int) : Option Int := finF (S := Unit) (R := Int) 
  (b1 (fun v_law_field => (b1 (fun v_law_size => (bindF (S1 := Int) (whileF (fun s1 => (notM (b3 f_law_on (some v_law_rows) (b4 f_law_rivals (some v_law_verses) (some v_law_unread_here) (some v_law_verse_here) (some s1)) (some v_law_field)))) (fun s1 => (b1 (fun y => (fun v_law_size => (some (Fl.nx v_law_size))) ((fun i j => i + j) s1 y)) (some (1 : Int)))) fuelN v_law_size) fun s1 => (b1 (fun r => some (Fl.rt r)) (some s1))))
    (some (0 : Int))))
    (b2 f_law_home (some v_law_rows) (some v_law_verse_here)))
end Kj

set_option Elab.async false
set_option linter.all false
set_option maxRecDepth 100000
set_option maxHeartbeats 4000000
/-! Kj40: int(bool), is of bools, slices with a step. -/
namespace Kj
open PySem PySem.SeqAt PySem.W PyProof.Rows L2
def intB (k : Bool) : Option Int := some (if k = true then 1 else 0)
def pickL {α : Type} (xs : List α) (lo hi st : Option Int) : List α := (sliceRange (sliceBounds lo hi st xs.length).1 (sliceBounds lo hi st xs.length).2.1 (sliceBounds lo hi st xs.length).2.2).filterMap fun k => xs[k]?
def cutsM {α : Type} (xs : List α) (lo hi st : Option Int) : Option (List α) := if st = some 0 then none else some (pickL xs lo hi st)
def tSl3 (K : PySem.W.Frag) (te : TE) (tl th ts : TO) : TE := fun σ H Q => te σ H fun x H1 => tl σ H1 fun lo H2 => th σ H2 fun hi H3 => ts σ H3 fun st H4 => st ≠ some 0 ∧ ∃ a xs, x = .ref a ∧ SqL K H4 a xs ∧ ∀ p, H4 p = none → Q (.ref p) (upd H4 p (.lst (pickL xs lo hi st)))
section
variable {H0 : Hp} {ρ : List Slot} {K : PySem.W.Frag} {f fa fb : Bool} {te ta tb : TE} {α : Type}
end
end Kj

set_option Elab.async false
set_option linter.all false
set_option maxRecDepth 100000
set_option maxHeartbeats 4000000
/-! Kj41: isinstance of what may be None. -/
namespace Kj
open PySem PySem.SeqAt PySem.W PyProof.Rows L2
section
variable {H0 : Hp} {ρ : List Slot} {K : PySem.W.Frag} {f fa fb : Bool} {te ta tb : TE} {α : Type}
end
def b6 {α β γ δ ε ζ η : Type} (g : α → β → γ → δ → ε → ζ → Option η) (ma : Option α) (mb : Option β) (mc : Option γ) (md : Option δ) (me : Option ε) (mf : Option ζ) : Option η := ma.bind fun a => mb.bind fun b => mc.bind fun c => md.bind fun d => me.bind fun e => mf.bind fun f => g a b c d e f
def sp6 {α β δ ε ζ η γ : Type} (A : α → Abs) (B : β → Abs) (D : δ → Abs) (E : ε → Abs) (G : ζ → Abs) (I : η → Abs) (C : γ → Abs) (F : α → β → δ → ε → ζ → η → Option γ) : Spec := fun As R => ∃ a b d e g i c, As = [A a, B b, D d, E e, G g, I i] ∧ F a b d e g i = some c ∧ R = C c
section
variable {H0 : Hp} {ρ ρ' : List Slot} {K : PySem.W.Frag} {f fa fb fc fd fe ff : Bool} {ta tb tc td te tf : TE} {α β γ δ ε ζ η : Type} {A : α → Abs} {B : β → Abs} {C : γ → Abs} {D : δ → Abs} {E' : ε → Abs} {G : ζ → Abs} {I : η → Abs} {Ex : XK} {ma : Option α} {mb : Option β} {md : Option δ} {me : Option ε} {mg : Option ζ} {mi : Option η}
end
end Kj

set_option Elab.async false
set_option linter.all false
set_option maxRecDepth 100000
set_option maxHeartbeats 4000000
/-! Kj42: chains of three comparisons. -/
namespace Kj
open PySem PySem.SeqAt PySem.W PyProof.Rows L2
def tChain3 (r r' r'' : R2) (ta tb tc td : TE) : TE := fun σ H Q => ta σ H fun x H1 => tb σ H1 fun y H2 => r x y H2 fun z H3 => ∃ k, z = .bl k ∧
  (if k = true then tc σ H3 fun w' H4 => r' y w' H4 fun z2 H5 => ∃ k2, z2 = .bl k2 ∧ (if k2 = true then td σ H5 fun u' H6 => r'' w' u' H6 Q else Q (.bl false) H5) else Q (.bl false) H3)
section
variable {X : Cx} {a b c d : Expr} {ta tb tc td : TE} {pos : Pos}
end
def chM3 {α : Type} (G G' G'' : α → α → Option Bool) (ma mb mc md : Option α) : Option Bool := ma.bind fun i => mb.bind fun j => (G i j).bind fun k => if k = true then mc.bind fun m => (G' j m).bind fun k2 => if k2 = true then md.bind fun n => G'' m n else some false else some false
section
variable {H0 : Hp} {ρ : List Slot} {K : PySem.W.Frag} {f fa fb fc fd : Bool} {ta tb tc td : TE}
end
end Kj

set_option Elab.async false
set_option linter.all false
set_option maxRecDepth 100000
set_option maxHeartbeats 4000000
namespace Kj
open PySem L2
def f_check_row (v_deal : DealT) (v_field : Int) (v_row : Int) : Option Unit := finN (S := Unit) 
  (bindF (S1 := Unit) (iteM (notM (chM leI ltI (some (0 : Int)) (some v_row) (b1 lenL (b2 f_Deal_rows (some v_deal) (some v_field)))))
    none
    (some (Fl.nx ()))) fun s1 => (some (Fl.nx ())))
def f_check_sweep (v_deal : DealT) (v_sweep : (P4 Int Int Int Int)) : Option Unit := finN (S := Unit) 
  (b1 (fun x1 => (b1 (fun _ => (bindF (S1 := Unit) (iteM (notM (chM3 leI leI ltI (some (0 : Int)) (some x1.c) (some x1.d) (b1 lenL (b2 atI (b2 f_Deal_rows (some v_deal) (some x1.a)) (some x1.b)))))
    none
    (some (Fl.nx ()))) fun s2 => (some (Fl.nx ())))) (b3 f_check_row (some v_deal) (some x1.a) (some x1.b))))
    (some v_sweep))
def f_Deal_swept (v_self : DealT) (v_sweep : (P4 Int Int Int Int)) : Option (List Int) := finF (S := Unit) (R := (List Int)) 
  (b1 (fun _ => (b1 (fun x1 => (b1 (fun r => some (Fl.rt r)) (b3 cutM (b2 atI (b2 atI ((some v_self).map DealT.fields) (some x1.a)) (some x1.b)) (someM (some x1.c)) (someM (b2 addI (some x1.d) (some (1 : Int)))))))
    (some v_sweep))) (b2 f_check_sweep (some v_self) (some v_sweep)))
def f_is_fault (v_deal : DealT) (v_verse : Int) (v_sweep : (P4 Int Int Int Int)) : Option Bool := finF (S := Unit) (R := Bool) 
  (b1 (fun v_spot => (b1 (fun _ => (b1 (fun r => some (Fl.rt r)) (orM ((some v_spot).map Option.isNone) (b2 neM (((some v_spot).bind id).map P3.a) ((some v_sweep).map P4.a))))) (b2 f_check_sweep (some v_deal) (some v_sweep))))
    (b2 f_Deal_where (some v_deal) (some v_verse)))
def f_is_taken (v_deal : DealT) (v_verse : Int) (v_sweep : (P4 Int Int Int Int)) : Option Bool := finF (S := Unit) (R := Bool) 
  (b1 (fun _ => (b1 (fun r => some (Fl.rt r)) (b2 inM (some v_verse) (b2 f_Deal_swept (some v_deal) (some v_sweep))))) (b2 f_check_verse (b1 f_Deal_book (some v_deal) ) (some v_verse)))
def f_law_sweeps (v_law_rows : (List (List (List Int)))) : Option (List (P4 Int Int Int Int)) := finF (S := Unit) (R := (List (P4 Int Int Int Int))) 
  (b1 (fun v_law_found => (bindF (S1 := (List (P4 Int Int Int Int))) (b1 (fun xs => forF (fun x2 s1 => (bindF (S1 := (List (P4 Int Int Int Int))) (b1 (fun xs => forF (fun x14 s13 => (bindF (S1 := (List (P4 Int Int Int Int))) (b1 (fun xs => forF (fun x20 s19 => (b1 (fun v_law_found => (some (Fl.nx v_law_found)))
    (b2 catM (some s19) (b1 (lcM fun x22 => lcE (some true) (b4 mk4 (some x2) (some x14.a) (some x20) (some x22))) (b2 rng2M (some x20) (b1 lenL (some x14.b))))))) xs s13) (b1 rngM (b1 lenL (some x14.b)))) fun s19 => (some (Fl.nx s19)))) xs s1) (b1 enumM (b2 atI (some v_law_rows) (some x2)))) fun s13 => (some (Fl.nx s13)))) xs v_law_found) (b1 rngM (some (2 : Int)))) fun s1 => (b1 (fun r => some (Fl.rt r)) (some s1))))
    (b1 shortM (some ([] : List (P4 Int Int Int Int)))))
def f_law_touched (v_law_rows : (List (List (List Int)))) (v_law_sweep : (P4 Int Int Int Int)) : Option (List Int) := finF (S := Unit) (R := (List Int)) 
  (b1 (fun r => some (Fl.rt r)) (b3 cutM (b2 atI (b2 atI (some v_law_rows) ((some v_law_sweep).map P4.a)) ((some v_law_sweep).map P4.b)) (someM ((some v_law_sweep).map P4.c)) (someM (b2 addI ((some v_law_sweep).map P4.d) (some (1 : Int))))))
end Kj

set_option Elab.async false
set_option linter.all false
set_option maxRecDepth 100000
set_option maxHeartbeats 4000000
/-! Kj43: loops over a list of one's own, that is appended to later. -/
namespace Kj
open PySem PySem.SeqAt PySem.W PyProof.Rows L2
section
variable {G : WK} {H0 : Hp} {ρ ρ' : List Slot} {K : PySem.W.Frag} {f fa fb fc g : Bool} {ta tb tc te : TE} {α β γ δ S S1 R : Type} {A : R → Abs} {B : S → List Slot} {t u w : TS}
end
def appJM {α β γ : Type} (xs : List α) (k : Option γ) (m : Option β) : Option γ := if xs.length < 100000 then b1 (fun _ => k) m else none
section
variable {Gw : WK} {H0 : Hp} {ρ ρ' : List Slot} {K : PySem.W.Frag} {f fa fb fc g : Bool} {ta tb tc te : TE} {α β γ δ S S1 R : Type} {A : R → Abs} {B : S → List Slot} {t u w : TS}
end
end Kj

set_option Elab.async false
set_option linter.all false
set_option maxRecDepth 100000
set_option maxHeartbeats 4000000
namespace Kj
open PySem L2
def f_Deal_cover (v_self : DealT) (v_verses : (List Int)) : Option (List (P4 Int Int Int Int)) := finF (S := Unit) (R := (List (P4 Int Int Int Int))) 
  (b1 (fun v_wanted => (b1 (fun v_sweeps => (bindF (S1 := (List (P4 Int Int Int Int))) (b1 (fun xs => forF (fun x2 s1 => (bindF (S1 := (List (P4 Int Int Int Int))) (b1 (fun xs => forF (fun x10 s9 => (b1 (fun v_places => (bindF (S1 := (List (P4 Int Int Int Int))) (iteM ((some v_places).map fun xs => !xs.isEmpty)
    (b1 (fun x => appM s9 x fun v_sweeps => (some (Fl.nx v_sweeps))) (b4 mk4 (some x2.a) (some x10.a) (b2 atI (some v_places) (some (0 : Int))) (b2 atI (some v_places) (b1 negI (some (1 : Int))))))
    (some (Fl.nx s9))) fun s14 => (some (Fl.nx s14))))
    (b1 (lcM fun x13 => lcE (b2 inM (some x13.b) (some v_wanted)) (some x13.a)) (b1 enumM (some x10.b))))) xs s1) (b1 enumM (some x2.b))) fun s9 => (some (Fl.nx s9)))) xs v_sweeps) (b1 enumM ((some v_self).map DealT.fields))) fun s1 => (b1 (fun r => some (Fl.rt r)) (some s1)))) (some ([] : (List (P4 Int Int Int Int))))))
    (b2 f_rising ((some v_self).map DealT.source) (some v_verses)))
def f_law_where (v_law_rows : (List (List (List Int)))) (v_law_verse_here : Int) : Option (Option (P3 Int Int Int)) := finF (S := Unit) (R := (Option (P3 Int Int Int))) 
  (bindF (S1 := Unit) (b1 (fun xs => forF (fun x2 s1 => (bindF (S1 := Unit) (b1 (fun xs => forF (fun x8 s7 => (bindF (S1 := Unit) (iteM (b2 inM (some v_law_verse_here) (b2 atI (b2 atI (some v_law_rows) (some x2)) (some x8)))
    (b1 (fun r => some (Fl.rt r)) ((b3 mk3 (some x2) (some x8) (b2 idxM (b2 atI (b2 atI (some v_law_rows) (some x2)) (some x8)) (some v_law_verse_here))).map some))
    (some (Fl.nx ()))) fun s10 => (some (Fl.nx ())))) xs ()) (b1 rngM (b1 lenL (b2 atI (some v_law_rows) (some x2))))) fun s7 => (some (Fl.nx ())))) xs ()) (b1 rngM (some (2 : Int)))) fun s1 => (b1 (fun r => some (Fl.rt r)) (some (none : (Option (P3 Int Int Int))))))
def f_law_cover (v_law_rows : (List (List (List Int)))) (v_law_some : (List Int)) : Option (List (P4 Int Int Int Int)) := finF (S := Unit) (R := (List (P4 Int Int Int Int))) 
  (b1 (fun v_law_found => (bindF (S1 := (List (P4 Int Int Int Int))) (b1 (fun xs => forF (fun x2 s1 => (bindF (S1 := (List (P4 Int Int Int Int))) (b1 (fun xs => forF (fun x10 s9 => (b1 (fun v_law_places => (bindF (S1 := (List (P4 Int Int Int Int))) (iteM (b2 neM (some v_law_places) (b1 shortM (some ([] : List Int))))
    (b1 (fun x => appM s9 x fun v_law_found => (some (Fl.nx v_law_found))) (b4 mk4 (some x2) (some x10.a) (b2 atI (some v_law_places) (some (0 : Int))) (b2 atI (some v_law_places) (b1 negI (some (1 : Int))))))
    (some (Fl.nx s9))) fun s14 => (some (Fl.nx s14))))
    (b1 (lcM fun x13 => lcE (b2 inM (b2 atI (some x10.b) (some x13)) (some v_law_some)) (some x13)) (b1 rngM (b1 lenL (some x10.b)))))) xs s1) (b1 enumM (b2 atI (some v_law_rows) (some x2)))) fun s9 => (some (Fl.nx s9)))) xs v_law_found) (b1 rngM (some (2 : Int)))) fun s1 => (b1 (fun r => some (Fl.rt r)) (some s1)))) (some ([] : (List (P4 Int Int Int Int)))))
end Kj

set_option Elab.async false
set_option linter.all false
set_option maxRecDepth 100000
set_option maxHeartbeats 4000000
/-! Kj44: results that are None or a list of one's own. -/
namespace Kj
open PySem PySem.SeqAt PySem.W PyProof.Rows L2
def aEoO {α : Type} [Enc α] (K : PySem.W.Frag) (x : Option (List α)) : Abs := match x with | none => aD K .none | some xs => aEo K xs
def optK {α β : Type} (kN : Option β) (kS : α → Option β) (o : Option α) : Option β := match o with | none => kN | some x => kS x
def DMoO (K : PySem.W.Frag) (H0 : Hp) (ρ : List Slot) (t : TE) {α : Type} [Enc α] (m : Option (Option (List α))) : Prop :=
  (m = some none → DE H0 ρ t true (aD K .none)) ∧ ∀ xs, m = some (some xs) → DMo K H0 ρ t (some xs)
section
variable {Gw : WK} {H0 : Hp} {ρ ρ' : List Slot} {K : PySem.W.Frag} {f fa fb fc g : Bool} {ta tb tc te : TE} {α β γ δ S S1 R : Type} {A : R → Abs} {B : S → List Slot} {t u w : TS} {Ax : α → Abs} {Bx : β → Abs} {Dx : δ → Abs} {ma : Option α} {mb : Option β} {md : Option δ} {Ex : XK}
end
end Kj

set_option Elab.async false
set_option linter.all false
set_option maxRecDepth 100000
set_option maxHeartbeats 4000000
/-! Kj45: a, b = x, y; division by numbers of any size; a constant of a module that is a tuple. -/
namespace Kj
open PySem PySem.SeqAt PySem.W PyProof.Rows L2
def divZ (i j : Int) : Option Int := if j ≠ 0 ∧ j.natAbs.log2 < 9000 then some (i.fdiv j) else none
def absM (i : Int) : Option Int := some (if i < 0 then -i else i)
section
variable {G : WK} {H0 : Hp} {ρ ρ' : List Slot} {K : PySem.W.Frag} {f fa fb fc g : Bool} {ta tb tc te : TE} {α β γ δ S S1 R : Type} {A : R → Abs} {B : S → List Slot} {t u w : TS} {mi mj : Option Int}
end
end Kj
namespace He
open PySem PySem.Spec PyProof.Rows L2
def obsBG (n : Nat) (fa : List Fa) (fn : List DefD) (ex : PySem.W.Frag → Bool) (g : Addr → Option Obj) : AlD × Bool := (obsD fa fn (frG g (asD g n)), ex (frG g (asD g n)))
def hookB (n : Nat) (fa : List Fa) (fn : List DefD) (ex : PySem.W.Frag → Bool) : PySem.W.Hook where
  α := AlD × Bool
  obs := fun s => obsBG n fa fn ex s.heap.get?
  val := fun _ => (valD fn, true)
  says := fun _ h => ∃ K : PySem.W.Frag, K.In h ∧ (SaysD fa fn K ∧ ex K = true)
  of := fun _ _ e => ⟨_, frG_in, congrArg (fun z : AlD × Bool => z.1) e, congrArg (fun z : AlD × Bool => z.2) e⟩
  keeps := fun _ _ _ ⟨K, hK, c⟩ k => ⟨K, PySem.W.Frag.In.keeps hK k, c⟩
theorem obsBG_eq {n : Nat} {fa : List Fa} {fn : List DefD} {ex : PySem.W.Frag → Bool} {g : Addr → Option Obj} {s : Shared} (h : ∀ a, g a = s.heap.get? a) : obsBG n fa fn ex g = (hookB n fa fn ex).obs s := by
  have e : g = s.heap.get? := funext h
  rw [e] <;> rfl
end He

set_option Elab.async false
set_option linter.all false
set_option maxRecDepth 100000
set_option maxHeartbeats 4000000
namespace Kj
open PySem L2
def f_common_divisor (v_one : Int) (v_other : Int) : Option Int := finF (S := Unit) (R := Int) 
  (bindF (S1 := Int × Int) (whileF (fun s1 => (b2 gtI (some s1.2) (some (0 : Int)))) (fun s1 => (b2 (fun v_one v_other => (some (Fl.nx (v_one, v_other)))) (some s1.2) (b2 modI (some s1.1) (some s1.2)))) fuelN (v_one, v_other)) fun s1 => (b1 (fun r => some (Fl.rt r)) (some s1.1)))
def f_part (v_top : Int) (v_bottom : Int) : Option (P2 Int Int) := finF (S := Unit) (R := (P2 Int Int)) 
  (bindF (S1 := Unit) (iteM (b2 eqM (some v_bottom) (some (0 : Int)))
    none
    (some (Fl.nx ()))) fun s1 => (b1 (fun v_divisor => (bindF (S1 := Int) (iteM (b2 ltI (some v_bottom) (some (0 : Int)))
    (b1 (fun v_divisor => (some (Fl.nx v_divisor)))
    (b1 negI (some v_divisor)))
    (some (Fl.nx v_divisor))) fun s2 => (b1 (fun r => some (Fl.rt r)) (b2 mk2 (b2 divZ (some v_top) (some s2)) (b2 divZ (some v_bottom) (some s2))))))
    (b2 f_common_divisor (b1 absM (some v_top)) (b1 absM (some v_bottom)))))
def f_plus (v_one : (P2 Int Int)) (v_other : (P2 Int Int)) : Option (P2 Int Int) := finF (S := Unit) (R := (P2 Int Int)) 
  (b1 (fun r => some (Fl.rt r)) (b2 f_part (b2 addI (b2 mulI ((some v_one).map P2.a) ((some v_other).map P2.b)) (b2 mulI ((some v_other).map P2.a) ((some v_one).map P2.b))) (b2 mulI ((some v_one).map P2.b) ((some v_other).map P2.b))))
def f_check_unread (v_book : BookT) (v_unread : (List Int)) (v_verse : Int) : Option Unit := finN (S := Unit) 
  (b1 (fun _ => (bindF (S1 := Unit) (iteM (b2 notInM (some v_verse) (b2 f_rising (some v_book) (some v_unread)))
    none
    (some (Fl.nx ()))) fun s1 => (some (Fl.nx ())))) (b2 f_check_verse (some v_book) (some v_verse)))
def f_chance_behind (v_others : (List Int)) : Option (P2 Int Int) := finF (S := Unit) (R := (P2 Int Int)) 
  (b1 (fun r => some (Fl.rt r)) (b2 f_part (some (1 : Int)) (b2 addI (b1 lenL (some v_others)) (some (1 : Int)))))
def f_mean_size (v_sizes : (List Int)) : Option (P2 Int Int) := finF (S := Unit) (R := (P2 Int Int)) 
  (b1 (fun v_total => (bindF (S1 := (P2 Int Int)) (b1 (fun xs => forF (fun x2 s1 => (b1 (fun v_many => (b1 (fun v_total => (some (Fl.nx v_total)))
    (b2 f_plus (some s1) (b2 f_part (some v_many) (b2 addI (some v_many) (some (1 : Int)))))))
    (b1 lenL (b1 (lcM fun x4 => lcE (b2 geI (some x4) (some x2)) (some x4)) (some v_sizes))))) xs v_total) (b1 rngM (b2 addI (b2 mxD (some v_sizes) (b1 negI (some (1 : Int)))) (some (1 : Int))))) fun s1 => (b1 (fun r => some (Fl.rt r)) (some s1))))
    (some (⟨0, 1⟩ : P2 Int Int)))
def f_sizes_shared (v_book : BookT) (v_verse : Int) (v_others : (List Int)) : Option (List Int) := finF (S := Unit) (R := (List Int)) 
  (b1 (fun r => some (Fl.rt r)) (b1 (lcM fun x1 => lcE (some true) (b3 f_shared (some v_book) (some v_verse) (some x1))) (some v_others)))
def f_decided_by (v_book : BookT) (v_unread : (List Int)) (v_verse : Int) (v_size : Int) : Option (P2 Int Int) := finF (S := Unit) (R := (P2 Int Int)) 
  (b1 (fun _ => (b1 (fun r => some (Fl.rt r)) (b1 f_chance_behind (b4 f_rivals (some v_book) (some v_unread) (some v_verse) (some v_size))))) (b3 f_check_unread (some v_book) (some v_unread) (some v_verse)))
def f_mean_decided (v_book : BookT) (v_unread : (List Int)) (v_verse : Int) : Option (P2 Int Int) := finF (S := Unit) (R := (P2 Int Int)) 
  (b1 (fun _ => (b1 (fun r => some (Fl.rt r)) (b1 f_mean_size (b3 f_sizes_shared (some v_book) (some v_verse) (b4 f_rivals (some v_book) (some v_unread) (some v_verse) (some (0 : Int))))))) (b3 f_check_unread (some v_book) (some v_unread) (some v_verse)))
def f_law_measure (v_law_one : Int) (v_law_other : Int) : Option Int := finF (S := Unit) (R := Int) 
  (b1 (fun v_law_one => (b1 (fun v_law_other => (bindF (S1 := Int × Int) (whileF (fun s1 => (b2 neM (some s1.2) (some (0 : Int)))) (fun s1 => (b2 (fun v_law_one v_law_other => (some (Fl.nx (v_law_one, v_law_other)))) (some s1.2) (b2 modI (some s1.1) (some s1.2)))) fuelN (v_law_one, v_law_other)) fun s1 => (b1 (fun r => some (Fl.rt r)) (some s1.1))))
    (b1 absM (some v_law_other))))
    (b1 absM (some v_law_one)))
def f_law_part (v_law_top : Int) (v_law_bottom : Int) : Option (P2 Int Int) := finF (S := Unit) (R := (P2 Int Int)) 
  (b1 (fun v_law_by => (bindF (S1 := Int) (iteM (b2 ltI (some v_law_bottom) (some (0 : Int)))
    (b1 (fun v_law_by => (some (Fl.nx v_law_by)))
    (b1 negI (some v_law_by)))
    (some (Fl.nx v_law_by))) fun s1 => (b1 (fun r => some (Fl.rt r)) (b2 mk2 (b2 divZ (some v_law_top) (some s1)) (b2 divZ (some v_law_bottom) (some s1))))))
    (b2 f_law_measure (some v_law_top) (some v_law_bottom)))
def f_law_sum (v_law_one : (P2 Int Int)) (v_law_other : (P2 Int Int)) : Option (P2 Int Int) := finF (S := Unit) (R := (P2 Int Int)) 
  (b1 (fun r => some (Fl.rt r)) (b2 f_law_part (b2 addI (b2 mulI ((some v_law_one).map P2.a) ((some v_law_other).map P2.b)) (b2 mulI ((some v_law_other).map P2.a) ((some v_law_one).map P2.b))) (b2 mulI ((some v_law_one).map P2.b) ((some v_law_other).map P2.b))))
def f_law_once (v_law_many : Int) (v_law_unread_here : (List Int)) : Option (List Int) := finF (S := Unit) (R := (List Int)) 
  (b1 (fun r => some (Fl.rt r)) (b1 (lcM fun x1 => lcE (b2 inM (some x1) (some v_law_unread_here)) (some x1)) (b1 rngM (some v_law_many))))
end Kj

set_option Elab.async false
set_option linter.all false
set_option maxRecDepth 100000
set_option maxHeartbeats 4000000
/-! Kj46: tuples of any length; the items of a list of one's own. -/
namespace Kj
open PySem PySem.SeqAt PySem.W PyProof.Rows L2
structure Tp (α : Type) where
  items : List α
  deriving DecidableEq
instance {α : Type} [Enc α] : Enc (Tp α) := ⟨fun x => .tuple (x.items.map en), fun x => by simp only [PyData.plain]; exact plain_map x.items, Enc.dep α + 1, fun x => by have := depth_map x.items; simp only [PyData.depth]; omega, fun x y => by
  simp only [PyData.eqv]
  rw [eqv_map x.items y.items]
  cases x; cases y
  simp⟩
instance {α : Type} [Enc α] : EncN (Tp α) := ⟨fun x => ⟨by show PyData.eqv .none (.tuple _) = false; simp [PyData.eqv], by show PyData.eqv (.tuple _) .none = false; simp [PyData.eqv], rfl⟩⟩
def tupM {α : Type} (xs : List α) : Option (Tp α) := some ⟨xs⟩
def listTM {α : Type} (x : Tp α) : Option (List α) := some x.items
def lenTM {α : Type} (x : Tp α) : Option Int := some (x.items.length : Int)
section
variable {H0 : Hp} {ρ : List Slot} {K : PySem.W.Frag} {f fa fb : Bool} {te ta tb : TE} {α : Type} {mj : Option Int}
end
end Kj

set_option Elab.async false
set_option linter.all false
set_option maxRecDepth 100000
set_option maxHeartbeats 4000000
namespace Kj
open PySem L2
def f_coming_behind (v_deal : DealT) (v_unread : (List Int)) (v_beginning : (Tp Str)) : Option (List Int) := finF (S := Unit) (R := (List Int)) 
  (b1 (fun r => some (Fl.rt r)) (b3 f_meeting (b1 f_Deal_book (some v_deal) ) (some v_unread) (b1 listTM (some v_beginning))))
def f_is_there (v_deal : DealT) (v_sweep : (P4 Int Int Int Int)) : Option Bool := finF (S := Unit) (R := Bool) 
  (bindF (S1 := Unit) ((b1 (fun _ => (some (Fl.nx ()))) (b2 f_check_sweep (some v_deal) (some v_sweep)))) fun s1 => (b1 (fun r => some (Fl.rt r)) (some true)))
def f_check_plan (v_deal : DealT) (v_unread : (List Int)) (v_plan : (List (P2 (Tp Str) (P4 Int Int Int Int)))) : Option Unit := finN (S := Unit) 
  (b1 (fun _ => (bindF (S1 := Unit) (b1 (fun xs => forF (fun x2 s1 => (bindF (S1 := Unit) (iteM (orM (notM ((b3 f_coming_behind (some v_deal) (some v_unread) (some x2.b.a)).map fun xs => !xs.isEmpty)) (notM (b2 f_is_there (some v_deal) (some x2.b.b))))
    none
    (some (Fl.nx ()))) fun s4 => (some (Fl.nx ())))) xs ()) (b1 enumM (some v_plan))) fun s1 => (some (Fl.nx ())))) (b2 f_rising (b1 f_Deal_book (some v_deal) ) (some v_unread)))
def f_judged (v_deal : DealT) (v_unread : (List Int)) (v_plan : (List (P2 (Tp Str) (P4 Int Int Int Int)))) : Option (Option (P2 Int Int)) := finF (S := Unit) (R := (Option (P2 Int Int))) 
  (b1 (fun _ => (bindF (S1 := Unit) (b1 (fun xs => forF (fun x2 s1 => (b1 (fun v_wronged => (bindF (S1 := Unit) (iteM ((some v_wronged).map fun xs => !xs.isEmpty)
    (b1 (fun r => some (Fl.rt r)) ((b2 mk2 (some x2.a) (b2 atI (some v_wronged) (some (0 : Int)))).map some))
    (some (Fl.nx ()))) fun s4 => (some (Fl.nx ()))))
    (b3 f_strays (some v_deal) (b3 f_coming_behind (some v_deal) (some v_unread) (some x2.b.a)) ((some x2.b.b).map P4.a)))) xs ()) (b1 enumM (some v_plan))) fun s1 => (b1 (fun r => some (Fl.rt r)) (some (none : (Option (P2 Int Int))))))) (b3 f_check_plan (some v_deal) (some v_unread) (some v_plan)))
def f_law_meet6 (v_law_verses : (List (List Str))) (v_law_unread_here : (List Int)) (v_law_heard : (List Str)) : Option (List Int) := finF (S := Unit) (R := (List Int)) 
  (b1 (fun v_law_size => (b1 (fun r => some (Fl.rt r)) (b1 (lcM fun x1 => lcE (andM (b2 inM (some x1) (some v_law_unread_here)) (b2 eqM (b3 cutM (b2 atI (some v_law_verses) (some x1)) noneM (someM (some v_law_size))) (some v_law_heard))) (some x1)) (b1 rngM (b1 lenL (some v_law_verses))))))
    (b1 lenL (some v_law_heard)))
def f_law_some_verse (v_law_verses : (List (List Str))) (v_law_unread_here : (List Int)) (v_law_number : Int) : Option Int := finF (S := Unit) (R := Int) 
  (bindF (S1 := Unit) (iteM (andM (b2 neM (some v_law_unread_here) (b1 shortM (some ([] : List Int)))) (b2 gtI (b2 modI (some v_law_number) (some (4 : Int))) (some (0 : Int))))
    (b1 (fun r => some (Fl.rt r)) (b2 atI (some v_law_unread_here) (b2 modI (b2 divI (some v_law_number) (some (4 : Int))) (b1 lenL (some v_law_unread_here)))))
    (some (Fl.nx ()))) fun s1 => (b1 (fun r => some (Fl.rt r)) (b2 modI (b2 divI (some v_law_number) (some (4 : Int))) (b1 lenL (some v_law_verses)))))
def f_law_sweep_bad (v_law_rows : (List (List (List Int)))) (v_law_sweep : (P4 Int Int Int Int)) : Option Str := finF (S := Unit) (R := Str) 
  (bindF (S1 := Unit) (iteM (orM (notM (chM leI leI (some (0 : Int)) ((some v_law_sweep).map P4.a) (some (1 : Int)))) (notM (chM leI ltI (some (0 : Int)) ((some v_law_sweep).map P4.b) (b1 lenL (b2 atI (some v_law_rows) ((some v_law_sweep).map P4.a))))))
    (b1 (fun r => some (Fl.rt r)) (some ("NoField" : Str)))
    (some (Fl.nx ()))) fun s1 => (bindF (S1 := Unit) (iteM (notM (chM3 leI leI ltI (some (0 : Int)) ((some v_law_sweep).map P4.c) ((some v_law_sweep).map P4.d) (b1 lenL (b2 atI (b2 atI (some v_law_rows) ((some v_law_sweep).map P4.a)) ((some v_law_sweep).map P4.b)))))
    (b1 (fun r => some (Fl.rt r)) (some ("NoCard" : Str)))
    (some (Fl.nx ()))) fun s2 => (b1 (fun r => some (Fl.rt r)) (some ("" : Str)))))
def f_law_pair_of (v_law_verses : (List (List Str))) (v_law_rows : (List (List (List Int)))) (v_law_unread_here : (List Int)) (v_law_d : (List Int)) (v_law_careful : Bool) : Option (Option (P2 (Tp Str) (P4 Int Int Int Int))) := finF (S := Unit) (R := (Option (P2 (Tp Str) (P4 Int Int Int Int)))) 
  (b1 (fun v_law_verse_here => (b1 (fun v_law_size => (b1 (fun v_law_some => (b1 (fun v_law_home_here => (bindF (S1 := Int × (List (P4 Int Int Int Int))) (iteM (andM (some v_law_careful) (b2 geI (some v_law_home_here) (some (0 : Int))))
    (b1 (fun v_law_size => (b1 (fun v_law_some => (some (Fl.nx (v_law_size, v_law_some))))
    (b1 (lcM fun x3 => lcE (b2 eqM ((some x3).map P4.a) (some v_law_home_here)) (some x3)) (some v_law_some))))
    (b2 maxI (some v_law_size) (b4 f_law_moment (some v_law_verses) (some v_law_rows) (some v_law_unread_here) (some v_law_verse_here))))
    (some (Fl.nx (v_law_size, v_law_some)))) fun s2 => (bindF (S1 := Unit) (iteM (orM (andM (some v_law_careful) (b2 ltI (some v_law_home_here) (some (0 : Int)))) (b2 eqM (some s2.2) (b1 shortM (some ([] : List (P4 Int Int Int Int))))))
    (b1 (fun r => some (Fl.rt r)) (some (none : (Option (P2 (Tp Str) (P4 Int Int Int Int))))))
    (some (Fl.nx ()))) fun s4 => (b1 (fun v_law_sweep => (b1 (fun v_law_whole => (bindF (S1 := (P4 Int Int Int Int)) (iteM (andM (b2 gtI (b2 modI (b2 atI (some v_law_d) (some (3 : Int))) (some (3 : Int))) (some (0 : Int))) (b2 neM (some v_law_whole) (b1 shortM (some ([] : List (P4 Int Int Int Int))))))
    (b1 (fun v_law_sweep => (some (Fl.nx v_law_sweep)))
    (b2 atI (some v_law_whole) (b2 modI (b2 atI (some v_law_d) (some (2 : Int))) (b1 lenL (some v_law_whole)))))
    (some (Fl.nx v_law_sweep))) fun s5 => (b1 (fun r => some (Fl.rt r)) ((b2 mk2 (b1 tupM (b3 cutM (b2 atI (some v_law_verses) (some v_law_verse_here)) noneM (someM (some s2.1)))) (some s5)).map some))))
    (b2 f_law_cover (some v_law_rows) (b3 f_law_meet6 (some v_law_verses) (some v_law_unread_here) (b3 cutM (b2 atI (some v_law_verses) (some v_law_verse_here)) noneM (someM (some s2.1)))))))
    (b2 atI (some s2.2) (b2 modI (b2 atI (some v_law_d) (some (2 : Int))) (b1 lenL (some s2.2))))))))
    (b2 f_law_home (some v_law_rows) (some v_law_verse_here))))
    (b1 f_law_sweeps (some v_law_rows))))
    (b2 modI (b2 atI (some v_law_d) (some (1 : Int))) (b2 addI (b1 lenL (b2 atI (some v_law_verses) (some v_law_verse_here))) (some (1 : Int))))))
    (b3 f_law_some_verse (some v_law_verses) (some v_law_unread_here) (b2 atI (some v_law_d) (some (0 : Int)))))
def f_law_plan (v_law_verses : (List (List Str))) (v_law_rows : (List (List (List Int)))) (v_law_unread_here : (List Int)) (v_law_d : (List Int)) (v_law_careful : Bool) : Option (List (P2 (Tp Str) (P4 Int Int Int Int))) := finF (S := Unit) (R := (List (P2 (Tp Str) (P4 Int Int Int Int)))) 
  (b1 (fun v_law_plan_here => (bindF (S1 := (List (P2 (Tp Str) (P4 Int Int Int Int)))) (b1 (fun xs => forF (fun x2 s1 => (b1 (fun v_law_pair => (bindF (S1 := (List (P2 (Tp Str) (P4 Int Int Int Int)))) (iteM ((some v_law_pair).map Option.isSome)
    (b1 (fun x => appM s1 x fun v_law_plan_here => (some (Fl.nx v_law_plan_here))) ((some v_law_pair).bind id))
    (some (Fl.nx s1))) fun s4 => (some (Fl.nx s4))))
    (b5 f_law_pair_of (some v_law_verses) (some v_law_rows) (some v_law_unread_here) (b3 cutM (some v_law_d) (someM (b2 addI (some (2 : Int)) (b2 mulI (some (4 : Int)) (some x2)))) noneM) (some v_law_careful)))) xs v_law_plan_here) (b1 rngM (b2 modI (b2 atI (some v_law_d) (some (0 : Int))) (some (8 : Int))))) fun s1 => (bindF (S1 := (List (P2 (Tp Str) (P4 Int Int Int Int)))) (iteM (andM (b2 neM (some s1) (b1 shortM (some ([] : List (P2 (Tp Str) (P4 Int Int Int Int)))))) (b2 eqM (b2 modI (b2 atI (some v_law_d) (some (1 : Int))) (some (5 : Int))) (some (4 : Int))))
    (b1 (fun x => appM s1 x fun v_law_plan_here => (some (Fl.nx v_law_plan_here))) (b2 atI (some s1) (b2 modI (b2 divI (b2 atI (some v_law_d) (some (1 : Int))) (some (5 : Int))) (b1 lenL (some s1)))))
    (some (Fl.nx s1))) fun s5 => (b1 (fun r => some (Fl.rt r)) (some s5))))) (some ([] : (List (P2 (Tp Str) (P4 Int Int Int Int))))))
def f_law_plan_bad (v_law_verses : (List (List Str))) (v_law_rows : (List (List (List Int)))) (v_law_unread_here : (List Int)) (v_law_plan_here : (List (P2 (Tp Str) (P4 Int Int Int Int)))) : Option Int := finF (S := Unit) (R := Int) 
  (bindF (S1 := Unit) (b1 (fun xs => forF (fun x2 s1 => (bindF (S1 := Unit) (iteM (orM (b2 eqM (b3 f_law_meet6 (some v_law_verses) (some v_law_unread_here) (b1 listTM (some x2.b.a))) (b1 shortM (some ([] : List Int)))) (b2 neM (b2 f_law_sweep_bad (some v_law_rows) (some x2.b.b)) (some ("" : Str))))
    (b1 (fun r => some (Fl.rt r)) (some x2.a))
    (some (Fl.nx ()))) fun s4 => (some (Fl.nx ())))) xs ()) (b1 enumM (some v_law_plan_here))) fun s1 => (b1 (fun r => some (Fl.rt r)) (b1 negI (some (1 : Int)))))
def f_law_good_plan (v_law_verses : (List (List Str))) (v_law_rows : (List (List (List Int)))) (v_law_unread_here : (List Int)) (v_law_d : (List Int)) (v_law_careful : Bool) : Option (List (P2 (Tp Str) (P4 Int Int Int Int))) := finF (S := Unit) (R := (List (P2 (Tp Str) (P4 Int Int Int Int)))) 
  (b1 (fun v_law_plan_here => (b1 (fun r => some (Fl.rt r)) (b1 (lcM fun x1 => lcE (b2 ltI (b4 f_law_plan_bad (some v_law_verses) (some v_law_rows) (some v_law_unread_here) (b1 shortM (b2 consM (some x1) (some ([] : List (P2 (Tp Str) (P4 Int Int Int Int))))))) (some (0 : Int))) (some x1)) (some v_law_plan_here))))
    (b5 f_law_plan (some v_law_verses) (some v_law_rows) (some v_law_unread_here) (some v_law_d) (some v_law_careful)))
def f_law_judged (v_law_verses : (List (List Str))) (v_law_rows : (List (List (List Int)))) (v_law_unread_here : (List Int)) (v_law_plan_here : (List (P2 (Tp Str) (P4 Int Int Int Int)))) : Option (Option (P2 Int Int)) := finF (S := Unit) (R := (Option (P2 Int Int))) 
  (bindF (S1 := Unit) (b1 (fun xs => forF (fun x2 s1 => (bindF (S1 := Unit) (b1 (fun xs => forF (fun x8 s7 => (bindF (S1 := Unit) (iteM (b2 neM (b2 f_law_home (some v_law_rows) (some x8)) ((some x2.b.b).map P4.a))
    (b1 (fun r => some (Fl.rt r)) ((b2 mk2 (some x2.a) (some x8)).map some))
    (some (Fl.nx ()))) fun s10 => (some (Fl.nx ())))) xs ()) (b3 f_law_meet6 (some v_law_verses) (some v_law_unread_here) (b1 listTM (some x2.b.a)))) fun s7 => (some (Fl.nx ())))) xs ()) (b1 enumM (some v_law_plan_here))) fun s1 => (b1 (fun r => some (Fl.rt r)) (some (none : (Option (P2 Int Int))))))
end Kj

set_option Elab.async false
set_option linter.all false
set_option maxRecDepth 100000
set_option maxHeartbeats 4000000
/-! Kj47: (). -/
namespace Kj
open PySem PySem.SeqAt PySem.W PyProof.Rows L2
section
variable {H0 : Hp} {ρ : List Slot} {K : PySem.W.Frag} {α : Type}
end
end Kj

set_option Elab.async false
set_option linter.all false
set_option maxRecDepth 100000
set_option maxHeartbeats 4000000
/-! Kj48: programs of what may raise. -/
namespace Kj
open PySem L2
def outOf (K : PySem.W.Frag) {R : Type} (A : R → Abs) : Rs R → Out
  | .ok r => .ret (A r)
  | .ex e => .exc (xP K e)
section
variable {α β γ δ ε ζ η : Type}
def sx1 (K : PySem.W.Frag) (A : α → Abs) (R : γ → Abs) (F : α → Option (Rs γ)) : SpecX := fun As O => ∃ a o, As = [A a] ∧ F a = some o ∧ O = outOf K R o
def sx2 (K : PySem.W.Frag) (A : α → Abs) (B : β → Abs) (R : γ → Abs) (F : α → β → Option (Rs γ)) : SpecX := fun As O => ∃ a b o, As = [A a, B b] ∧ F a b = some o ∧ O = outOf K R o
def sx3 (K : PySem.W.Frag) (A : α → Abs) (B : β → Abs) (D : δ → Abs) (R : γ → Abs) (F : α → β → δ → Option (Rs γ)) : SpecX := fun As O => ∃ a b d o, As = [A a, B b, D d] ∧ F a b d = some o ∧ O = outOf K R o
def sx4 (K : PySem.W.Frag) (A : α → Abs) (B : β → Abs) (D : δ → Abs) (E : ε → Abs) (R : γ → Abs) (F : α → β → δ → ε → Option (Rs γ)) : SpecX := fun As O => ∃ a b d e o, As = [A a, B b, D d, E e] ∧ F a b d e = some o ∧ O = outOf K R o
def sx5 (K : PySem.W.Frag) (A : α → Abs) (B : β → Abs) (D : δ → Abs) (E : ε → Abs) (G : ζ → Abs) (R : γ → Abs) (F : α → β → δ → ε → ζ → Option (Rs γ)) : SpecX := fun As O => ∃ a b d e g o, As = [A a, B b, D d, E e, G g] ∧ F a b d e g = some o ∧ O = outOf K R o
end
/-- ways of an expression -/
def DMx (W : WX) (K : PySem.W.Frag) (H0 : Hp) (ρ : List Slot) (t : TE) (f : Bool) {α : Type} (A : α → Abs) (m : Option (Rs α)) : Prop := (∀ x, m = some (.ok x) → DE H0 ρ t f (A x)) ∧ ∀ e, m = some (.ex e) → RE W H0 ρ t (xP K e)
def RT (W : WX) (H0 : Hp) (ρ : List Slot) (t : TT) (X : XA) : Prop := ∀ (σ : St) (H Hr : Hp) (Q : Bool → Hp → Prop), EnvOk H0 σ ρ H Hr → (∀ cls d H' Hr', Ext H Hr H' Hr' → X cls d H' → W cls d σ H') → t σ H Q
def RI (W : WX) (H0 : Hp) (ρ : List Slot) (t : TI) (X : XA) : Prop := ∀ (σ : St) (H Hr : Hp) (Q : It → Hp → Prop), EnvOk H0 σ ρ H Hr → (∀ cls d H' Hr', Ext H Hr H' Hr' → X cls d H' → W cls d σ H') → t σ H Q
def DTx (W : WX) (K : PySem.W.Frag) (H0 : Hp) (ρ : List Slot) (t : TT) (m : Option (Rs Bool)) : Prop := (∀ b, m = some (.ok b) → DT K H0 ρ t b) ∧ ∀ e, m = some (.ex e) → RT W H0 ρ t (xP K e)
def DWx (W : WX) (K : PySem.W.Frag) (H0 : Hp) (ρ : List Slot) (wi : TI) (f : Bool) {α : Type} (A : α → Abs) (m : Option (Rs (List α))) : Prop := (∀ xs, m = some (.ok xs) → DW H0 ρ wi xs.length f (fun i => match xs[i]? with | some x => A x | none => aNo)) ∧ ∀ e, m = some (.ex e) → RI W H0 ρ wi (xP K e)
def rsM {α β : Type} (g : Option α → Option β) (m : Option (Rs α)) : Option (Rs β) := m.bind fun r => match r with | .ok x => (g (some x)).map .ok | .ex e => some (.ex e)
def bX {α S R : Type} (k : α → Option (Fl S R)) (m : Option (Rs α)) : Option (Fl S R) := m.bind fun r => match r with | .ok x => k x | .ex e => some (.ex e)
section
variable {α β : Type} {x : α} {e : Exn}
@[simp] theorem rsM_ok {g : Option α → Option β} : rsM g (some (.ok x)) = (g (some x)).map .ok := rfl
@[simp] theorem rsM_ex {g : Option α → Option β} : rsM g (some (.ex e)) = some (.ex e) := rfl
@[simp] theorem bX_ok {S R : Type} {k : α → Option (Fl S R)} : bX k (some (.ok x)) = k x := rfl
@[simp] theorem bX_ex {S R : Type} {k : α → Option (Fl S R)} : bX k (some (.ex e)) = some (.ex e) := rfl
end
section
variable {W : WX} {H0 : Hp} {ρ ρ' : List Slot} {K : PySem.W.Frag} {f f' fa fb fc fd fe : Bool} {te t' ta tb tc td : TE} {X : XA} {α β γ δ ε ζ : Type} {A : α → Abs} {B : β → Abs} {C : γ → Abs} {D : δ → Abs} {E' : ε → Abs} {G : ζ → Abs}
/-! ### where it stands -/
def rsN (m : Option (Rs Bool)) : Option (Rs Bool) := m.map fun r => match r with | .ok b => .ok (!b) | .ex e => .ex e
/-- a chain of two comparisons whose last part may raise -/
def chXM (g g' : Int → Int → Bool) (ma mb : Option Int) (mc : Option (Rs Int)) : Option (Rs Bool) := ma.bind fun i => mb.bind fun j => if g i j = true then mc.map (fun r => match r with | .ok k => .ok (g' j k) | .ex e => .ex e) else some (.ok false)
/-! ### calls -/
theorem dx_of {S : SpecX} {As : List Abs} {t : TA} {m : Option (Rs γ)} (bo : Bo H0 ρ ρ') (hs : ∀ r, m = some r → ∃ As, DA H0 ρ' t false As ∧ S As (outOf K C r)) : DMx W K H0 ρ (tCallS (spX S) (WE W) t) true C m :=
  ⟨fun x e => by
    obtain ⟨As, ha, s⟩ := hs _ e
    exact de_callS bo ha s, fun x e => by
    obtain ⟨As, ha, s⟩ := hs _ e
    exact re_callS bo ha s⟩
theorem dx_call1 {F : α → Option (Rs γ)} {ma : Option α} (bo : Bo H0 ρ ρ') (h1 : DM H0 ρ' ta fa A ma) : DMx W K H0 ρ (tCallS (spX (sx1 K A C F)) (WE W) (tCons ta tNil)) true C (b1 F ma) := dx_of (As := []) bo fun r e => by
  obtain ⟨a, e1, h⟩ := b1_some e
  exact ⟨_, da_cons (h1 a e1) da_nil, a, r, rfl, h, rfl⟩
/-! ### methods -/
def tMethX (C : Addr) (m : Str) (sp : Sp) (E : St → XK) (ta : TE) (t : TA) : TE := fun σ H Q => ta σ H fun x H1 => ∃ a dx fs, x = .ref a ∧ H1 a = some (.ins C dx fs) ∧ fs.lookup m = none ∧ t σ H1 fun vs H2 => sp (x :: vs) H2 Q (E σ)
end
section
variable {P : Program} {w : World} {K : PySem.W.Frag} {mg : Str → Option Value} {base : Heap}
def MethAtX (P : Program) (w : World) (K : PySem.W.Frag) (mg : Str → Option Value) (base : Heap) (C : Addr) (m : Str) (k : Nat) (ps : List Str) (sp : Sp) : Prop :=
  ∃ f fd, Cls K C ∧ Meth K C m f ∧ Binds K fd ps [] ∧ FnOk P w K mg base (L2.CX P w) k f fd ps sp
end
section
open PySem.Spec PyProof.Rows
end
end Kj
namespace Kj
open PySem L2
section
variable {W : WX} {H0 : Hp} {ρ ρ' : List Slot} {K : PySem.W.Frag} {f f' fa fb fc fd fe : Bool} {te t' ta tb tc td : TE} {X : XA} {α β γ δ ε : Type} {B : β → Abs} {R : γ → Abs} {D : δ → Abs} {C : Addr} {O : α → List (Str × Abs)} {m : Str}
end
/-! ### statements -/
section
variable {G : WK} {H0 : Hp} {ρ ρ' : List Slot} {f : Bool} {te : TE} {α S S1 R : Type} {A : R → Abs} {B : S → List Slot} {t u w : TS} {Ax : α → Abs}
theorem bX_some {k : α → Option (Fl S R)} {m : Option (Rs α)} {fl : Fl S R} (h : bX k m = some fl) : (∃ x, m = some (.ok x) ∧ k x = some fl) ∨ ∃ e, m = some (.ex e) ∧ fl = .ex e := by
  obtain ⟨r, h1, h2⟩ := Option.bind_eq_some_iff.mp h
  cases r with
  | ok x => exact .inl ⟨x, h1, h2⟩
  | ex e => cases h2; exact .inr ⟨e, h1, rfl⟩
theorem ds_re {e : Exn} {N : List Slot → Prop} {Rr : Abs} {F : Ends → V → Hp → St → Prop} (h : RE G.W H0 ρ te (xP G.K e)) (ht : ∀ D σ H, te σ H (fun v H' => F D v H' σ) → t D σ H) : DS ⟨G.W, fun ρ' cls d H => ρ' = ρ ∧ xP G.K e cls d H⟩ H0 ρ t N Rr := fun σ H Hr D E kn kr kx =>
  ht D σ H (h σ H Hr _ E fun cls d H' Hr' x q => kx ρ σ H' Hr' cls d ⟨rfl, q⟩ (E.ext x) x.r)
theorem ds_loose {W : WX} {Z Z' : List Slot → XA} {N : List Slot → Prop} {Rr : Abs} (h : DS ⟨W, Z⟩ H0 ρ t N Rr) (hz : ∀ ρ' cls d H, Z ρ' cls d H → Z' ρ' cls d H) : DS ⟨W, Z'⟩ H0 ρ t N Rr := fun σ H Hr D E kn kr kx => h σ H Hr D E kn kr fun ρ' σ' H' Hr' cls d z E' s => kx ρ' σ' H' Hr' cls d (hz _ _ _ _ z) E' s
theorem db_raise {x : Str} : DB G H0 ρ (tSeq (fun _ σ H => G.W (.ref (He.ga G.K x)) none σ H) u) A (some (.ex ⟨x, []⟩) : Option (Fl S R)) B := fun fl e => by
  cases e
  exact fun σ H Hr D E kn kr kx => kx ρ σ H Hr _ _ ⟨rfl, rfl⟩ E (Same.refl _)
theorem dbx_drop {m : Option (Rs α)} {k : Option (Fl S R)} (h : DMx G.W G.K H0 ρ te f Ax m) (hk : DB G H0 ρ u A k B) : DB G H0 ρ (tSeq (tDrop te) u) A (bX (fun _ => k) m) B := fun fl e => by
  rcases bX_some e with ⟨x, h1, h2⟩ | ⟨x, h1, rfl⟩
  · exact ds_sq (ds_drop (h.1 x h1)) (hk fl h2)
  · exact ds_loose (ds_re (F := fun D v H' σ => u D σ H') (h.2 x h1) fun D σ H q => q) fun _ _ _ _ z => z.2
theorem db_finXN {K : PySem.W.Frag} {W : WX} {m : Option (Fl S Unit)} {o : Rs Unit} (h : DB ⟨W, K⟩ H0 ρ t (aE K) m B) (e : finXN m = some o) : DS ⟨W, outZ (outOf K (aE K) o)⟩ H0 ρ t (fun _ => ∀ G, (outR (outOf K (aE K) o)).p .non G) (outR (outOf K (aE K) o)) := by
  obtain ⟨fl, h1, h2⟩ := Option.bind_eq_some_iff.mp e
  cases fl with
  | nx s => cases h2; exact ds_imp (ds_noR (h _ h1)) fun r _ G => .non
  | rt r => cases h2; exact ds_imp (h _ h1) fun r ⟨s, e, _⟩ => by cases e
  | ex x => cases h2; exact ds_imp (h _ h1) fun r ⟨s, e, _⟩ => by cases e
end
/-! ### try -/
def exHit (n c : Str) : Bool := decide (n = c) || decide (c = "SnatchError")
def exmB (K : PySem.W.Frag) (l lc : List Str) : Bool := l.all fun n => lc.all fun c => decide (PySem.W.exmOne K (.ref (He.ga K n)) (.ref (He.ga K c)) = some (exHit n c))
theorem exmB_ok {K : PySem.W.Frag} {l lc : List Str} (h : exmB K l lc = true) {n c : Str} (hn : l.contains n = true) (hc : lc.contains c = true) : PySem.W.exmOne K (.ref (He.ga K n)) (.ref (He.ga K c)) = some (exHit n c) :=
  of_decide_eq_true (List.all_eq_true.mp (List.all_eq_true.mp h n (List.contains_iff_mem.mp hn)) c (List.contains_iff_mem.mp hc))
def hndM {S R : Type} : List (Str × Option (Fl S R)) → Str → Option (Fl S R)
  | [], _ => none
  | (c, p) :: hs, n => if exHit n c = true then p else hndM hs n
def tryM {α S R : Type} (l : List Str) (hs : List (Str × Option (Fl S R))) (ok : α → Option (Fl S R)) (m : Option (Rs α)) : Option (Fl S R) := m.bind fun r => match r with | .ok x => ok x | .ex e => if l.contains e.name = true then hndM hs e.name else none
theorem takes_no {X : Cx} : Takes X (fun _ _ _ _ => False) := fun u s' ⟨_, _, _, _, _, _, _, _, _, _, _, _, _, _, _, _, w⟩ => w.elim
theorem takes_def {P : Program} {w : World} {K : PySem.W.Frag} {mg : Str → Option Value} {base : Heap} {N : List Str} {qual : Str} {scope : Scope} {f : Addr} {cd : Value} {A : Around} {outer : List Env} {s : Shared} {H : Hp} {E : XK} : Takes (cxOf (L2.CX P w) P w K mg base N qual scope f cd A outer s H E) (fun cls d _ H => E cls d H) :=
  takes_of (X := cxOf (L2.CX P w) P w K mg base N qual scope f cd A outer s H E) rfl rfl rfl rfl
section
variable {G : WK} {H0 : Hp} {ρ ρ' : List Slot} {f : Bool} {α S S1 R : Type} {A : R → Abs} {B : S → List Slot} {t u w : TS} {Ax : α → Abs} {B1 : S1 → List Slot}
inductive HL (G : WK) (H0 : Hp) (ρ : List Slot) (lc : List Str) {S1 R : Type} (A : R → Abs) (B1 : S1 → List Slot) : List (Value × (Addr → Value → Option Addr → TS)) → List (Str × Option (Fl S1 R)) → Prop
  | nil : HL G H0 ρ lc A B1 [] []
  | cons {c : Str} {tb : TS} {p : Option (Fl S1 R)} {l : List (Value × (Addr → Value → Option Addr → TS))} {hs : List (Str × Option (Fl S1 R))} : lc.contains c = true → DB G H0 ρ tb A p B1 → HL G H0 ρ lc A B1 l hs → HL G H0 ρ lc A B1 ((.ref (He.ga G.K c), fun _ _ _ => tb) :: l) ((c, p) :: hs)
end
end Kj

set_option Elab.async false
set_option linter.all false
set_option maxRecDepth 100000
set_option maxHeartbeats 4000000
/-! Kj49: small rules. -/
namespace Kj
open PySem L2
section
variable {H0 : Hp} {ρ : List Slot} {K : PySem.W.Frag} {f fa : Bool} {te : TE}
def listP4 {α : Type} (x : P4 α α α α) : Option (List α) := some [x.a, x.b, x.c, x.d]
end
theorem passes_def {P : Program} {w : World} {K : PySem.W.Frag} {mg : Str → Option Value} {base : Heap} {N : List Str} {qual : Str} {scope : Scope} {f : Addr} {cd : Value} {A : Around} {outer : List Env} {s : Shared} {H : Hp} {E : XK} : PassesOwn (model (cxOf (L2.CX P w) P w K mg base N qual scope f cd A outer s H E).prog (cxOf (L2.CX P w) P w K mg base N qual scope f cd A outer s H E).w) (cxOf (L2.CX P w) P w K mg base N qual scope f cd A outer s H E).A (cxOf (L2.CX P w) P w K mg base N qual scope f cd A outer s H E).env (cxOf (L2.CX P w) P w K mg base N qual scope f cd A outer s H E).xe :=
  passes_of (X := cxOf (L2.CX P w) P w K mg base N qual scope f cd A outer s H E) rfl
/-! ### a walk over two lists that may both raise -/
def rs2 {α β γ : Type} (g : α → β → Option γ) (m : Option (Rs α)) (m' : Option (Rs β)) : Option (Rs γ) := m.bind fun r => match r with
  | .ex e => some (.ex e)
  | .ok x => m'.bind fun r' => match r' with
    | .ex e => some (.ex e)
    | .ok y => (g x y).map .ok
/-! ### while, where the first test may raise -/
def rsO {α : Type} (m : Option (Rs α)) : Option α := m.bind fun r => match r with | .ok x => some x | .ex _ => none
def whileX {S R : Type} (c : S → Option (Rs Bool)) (b : S → Option (Fl S R)) (n : Nat) (s0 : S) : Option (Fl S R) := match c s0 with
  | some (.ex e) => some (.ex e)
  | _ => whileF (fun s => rsO (c s)) b n s0
end Kj

set_option Elab.async false
set_option linter.all false
set_option maxRecDepth 100000
set_option maxHeartbeats 4000000
namespace Kj
open PySem L2
def f_check_verse_x (v_book : BookT) (v_number : Int) : Option (Rs Unit) := finXN (S := Unit) 
  (bindF (S1 := Unit) (iteM (notM (chM leI ltI (some (0 : Int)) (some v_number) (b1 f_Book_many (some v_book) )))
    (some (Fl.ex ⟨"NoVerse", []⟩))
    (some (Fl.nx ()))) fun s1 => (some (Fl.nx ())))
def f_rising_x (v_book : BookT) (v_numbers : (List Int)) : Option (Rs (List Int)) := finX (S := Unit) (R := (List Int)) 
  (bindF (S1 := Unit) (b1 (fun xs => forF (fun x2 s1 => (bX (fun _ => (some (Fl.nx ()))) (b2 f_check_verse_x (some v_book) (some x2)))) xs ()) (some v_numbers)) fun s1 => (b1 (fun r => some (Fl.rt r)) (b1 sortedSetM (some v_numbers))))
def f_meeting_x (v_book : BookT) (v_unread : (List Int)) (v_heard : (List Str)) : Option (Rs (List Int)) := finX (S := Unit) (R := (List Int)) 
  (bX (fun r => some (Fl.rt r)) (rsM (fun mz => (b1 (lcM fun x1 => lcE (b2 f_begins (some v_heard) (b2 f_Book_verse (some v_book) (some x1))) (some x1)) mz)) (b2 f_rising_x (some v_book) (some v_unread))))
def f_check_field_x (v_field : Int) : Option (Rs Unit) := finXN (S := Unit) 
  (bindF (S1 := Unit) (iteM (notM (chM leI leI (some (0 : Int)) (some v_field) (some (1 : Int))))
    (some (Fl.ex ⟨"NoField", []⟩))
    (some (Fl.nx ()))) fun s1 => (some (Fl.nx ())))
def f_Deal_rows_x (v_self : DealT) (v_field : Int) : Option (Rs (List (List Int))) := finX (S := Unit) (R := (List (List Int))) 
  (bX (fun _ => (b1 (fun r => some (Fl.rt r)) (b1 f_copied (b2 atI ((some v_self).map DealT.fields) (some v_field))))) (b1 f_check_field_x (some v_field)))
def f_check_row_x (v_deal : DealT) (v_field : Int) (v_row : Int) : Option (Rs Unit) := finXN (S := Unit) 
  (bindF (S1 := Unit) (bX (fun c => iteM (some c)
    (some (Fl.ex ⟨"NoField", []⟩))
    (some (Fl.nx ()))) (rsN (chXM (fun i j => decide (i ≤ j)) (fun i j => decide (i < j)) (some (0 : Int)) (some v_row) (rsM (fun mz => (b1 lenL mz)) (b2 f_Deal_rows_x (some v_deal) (some v_field)))))) fun s1 => (some (Fl.nx ())))
def f_check_sweep_x (v_deal : DealT) (v_sweep : (P4 Int Int Int Int)) : Option (Rs Unit) := finXN (S := Unit) 
  (b1 (fun x1 => (bX (fun _ => (bindF (S1 := Unit) (iteM (notM (chM3 leI leI ltI (some (0 : Int)) (some x1.c) (some x1.d) (b1 lenL (b2 atI (b2 f_Deal_rows (some v_deal) (some x1.a)) (some x1.b)))))
    (some (Fl.ex ⟨"NoCard", []⟩))
    (some (Fl.nx ()))) fun s2 => (some (Fl.nx ())))) (b3 f_check_row_x (some v_deal) (some x1.a) (some x1.b))))
    (some v_sweep))
def f_Deal_swept_x (v_self : DealT) (v_sweep : (P4 Int Int Int Int)) : Option (Rs (List Int)) := finX (S := Unit) (R := (List Int)) 
  (bX (fun _ => (b1 (fun x1 => (b1 (fun r => some (Fl.rt r)) (b3 cutM (b2 atI (b2 atI ((some v_self).map DealT.fields) (some x1.a)) (some x1.b)) (someM (some x1.c)) (someM (b2 addI (some x1.d) (some (1 : Int)))))))
    (some v_sweep))) (b2 f_check_sweep_x (some v_self) (some v_sweep)))
def f_Deal_where_x (v_self : DealT) (v_verse : Int) : Option (Rs (Option (P3 Int Int Int))) := finX (S := Unit) (R := (Option (P3 Int Int Int))) 
  (bX (fun _ => (bindF (S1 := Unit) (b1 (fun xs => forF (fun x2 s1 => (bindF (S1 := Unit) (b1 (fun xs => forF (fun x8 s7 => (bindF (S1 := Unit) (iteM (b2 inM (some v_verse) (some x8.b))
    (b1 (fun r => some (Fl.rt r)) ((b3 mk3 (some x2.a) (some x8.a) (b2 idxM (some x8.b) (some v_verse))).map some))
    (some (Fl.nx ()))) fun s10 => (some (Fl.nx ())))) xs ()) (b1 enumM (some x2.b))) fun s7 => (some (Fl.nx ())))) xs ()) (b1 enumM ((some v_self).map DealT.fields))) fun s1 => (b1 (fun r => some (Fl.rt r)) (some (none : (Option (P3 Int Int Int))))))) (b2 f_check_verse_x ((some v_self).map DealT.source) (some v_verse)))
def f_card_field_x (v_deal : DealT) (v_verse : Int) : Option (Rs Int) := finX (S := Unit) (R := Int) 
  (bX (fun v_spot => (bindF (S1 := Unit) (iteM ((some v_spot).map Option.isNone)
    (some (Fl.ex ⟨"NoCard", []⟩))
    (some (Fl.nx ()))) fun s1 => (b1 (fun r => some (Fl.rt r)) (((some v_spot).bind id).map P3.a))))
    (b2 f_Deal_where_x (some v_deal) (some v_verse)))
def f_is_fault_x (v_deal : DealT) (v_verse : Int) (v_sweep : (P4 Int Int Int Int)) : Option (Rs Bool) := finX (S := Unit) (R := Bool) 
  (bX (fun v_spot => (bX (fun _ => (b1 (fun r => some (Fl.rt r)) (orM ((some v_spot).map Option.isNone) (b2 neM (((some v_spot).bind id).map P3.a) ((some v_sweep).map P4.a))))) (b2 f_check_sweep_x (some v_deal) (some v_sweep))))
    (b2 f_Deal_where_x (some v_deal) (some v_verse)))
def f_is_taken_x (v_deal : DealT) (v_verse : Int) (v_sweep : (P4 Int Int Int Int)) : Option (Rs Bool) := finX (S := Unit) (R := Bool) 
  (bX (fun _ => (bX (fun r => some (Fl.rt r)) (rsM (fun mz => (b2 inM (some v_verse) mz)) (b2 f_Deal_swept_x (some v_deal) (some v_sweep))))) (b2 f_check_verse_x (b1 f_Deal_book (some v_deal) ) (some v_verse)))
def f_faultless_x (v_deal : DealT) (v_unread : (List Int)) (v_heard : (List Str)) : Option (Rs (List Int)) := finX (S := Unit) (R := (List Int)) 
  (bX (fun v_coming => (b1 (fun r => some (Fl.rt r)) (b1 (lcM fun x1 => lcE (notM ((b3 f_strays (some v_deal) (some v_coming) (some x1)).map fun xs => !xs.isEmpty)) (some x1)) (b1 rngM (some (2 : Int))))))
    (b3 f_meeting_x (b1 f_Deal_book (some v_deal) ) (some v_unread) (some v_heard)))
def f_witness_x (v_deal : DealT) (v_unread : (List Int)) (v_heard : (List Str)) (v_sweep : (P4 Int Int Int Int)) : Option (Rs (Option Int)) := finX (S := Unit) (R := (Option Int)) 
  (bX (fun v_coming => (bX (fun _ => (b1 (fun v_wronged => (b1 (fun r => some (Fl.rt r)) (iteM ((some v_wronged).map fun xs => !xs.isEmpty) ((b2 atI (some v_wronged) (some (0 : Int))).map some) (some (none : (Option Int))))))
    (b3 f_strays (some v_deal) (some v_coming) ((some v_sweep).map P4.a)))) (b2 f_check_sweep_x (some v_deal) (some v_sweep))))
    (b3 f_meeting_x (b1 f_Deal_book (some v_deal) ) (some v_unread) (some v_heard)))
def f_sure_x (v_deal : DealT) (v_unread : (List Int)) (v_heard : (List Str)) : Option (Rs (Option (List (P4 Int Int Int Int)))) := finX (S := Unit) (R := (Option (List (P4 Int Int Int Int)))) 
  (bindF (S1 := Unit) (bX (fun c => iteM (some c)
    (b1 (fun r => some (Fl.rt r)) (some (none : (Option (List (P4 Int Int Int Int))))))
    (some (Fl.nx ()))) (rsN (rsM (fun mz => (mz.map fun xs => !xs.isEmpty)) (b3 f_faultless_x (some v_deal) (some v_unread) (some v_heard))))) fun s1 => (b1 (fun r => some (Fl.rt r)) ((b2 f_Deal_cover (some v_deal) (b3 f_meeting (b1 f_Deal_book (some v_deal) ) (some v_unread) (some v_heard))).map some)))
def f_rivals_x (v_book : BookT) (v_unread : (List Int)) (v_verse : Int) (v_size : Int) : Option (Rs (List Int)) := finX (S := Unit) (R := (List Int)) 
  (bX (fun _ => (bX (fun v_others => (b1 (fun r => some (Fl.rt r)) (b1 (lcM fun x3 => lcE (b2 geI (b3 f_shared (some v_book) (some v_verse) (some x3)) (some v_size)) (some x3)) (some v_others))))
    (rsM (fun mz => (b1 (lcM fun x1 => lcE (b2 neM (some x1) (some v_verse)) (some x1)) mz)) (b2 f_rising_x (some v_book) (some v_unread))))) (b2 f_check_verse_x (some v_book) (some v_verse)))
def f_moment_x (v_deal : DealT) (v_unread : (List Int)) (v_verse : Int) : Option (Rs Int) := finX (S := Unit) (R := Int) 
  (b1 (fun v_book => (bX (fun v_others => (bX (fun v_field => (b1 (fun r => some (Fl.rt r)) (b2 mxD (b1 (lcM fun x1 => lcE (some true) (b2 addI (b3 f_shared (some v_book) (some v_verse) (some x1)) (some (1 : Int)))) (b3 f_strays (some v_deal) (some v_others) (some v_field))) (some (0 : Int)))))
    (b2 f_card_field_x (some v_deal) (some v_verse))))
    (b4 f_rivals_x (some v_book) (some v_unread) (some v_verse) (some (0 : Int)))))
    (b1 f_Deal_book (some v_deal) ))
def f_law_stranger (v_law_number : Int) (v_law_many : Int) : Option Int := finF (S := Unit) (R := Int) 
  (b1 (fun r => some (Fl.rt r)) (b2 atI (b1 shortM (b2 consM (b1 negI (some (1 : Int))) (b2 consM (some v_law_many) (b2 consM (b2 addI (some v_law_many) (some (1 : Int))) (b2 consM (b2 powI (some (10 : Int)) (some (20 : Int))) (b2 consM (b1 negI (b2 powI (some (10 : Int)) (some (20 : Int)))) (some ([] : List Int)))))))) (b2 modI (some v_law_number) (some (5 : Int)))))
def f_law_put_in (v_law_row : (List Int)) (v_law_place : Int) (v_law_thing : Int) : Option (List Int) := finF (S := Unit) (R := (List Int)) 
  (b1 (fun v_law_at => (b1 (fun r => some (Fl.rt r)) (b2 catM (b2 catM (b3 cutM (some v_law_row) noneM (someM (some v_law_at))) (b1 shortM (b2 consM (some v_law_thing) (some ([] : List Int))))) (b3 cutM (some v_law_row) (someM (some v_law_at)) noneM))))
    (b2 modI (some v_law_place) (b2 addI (b1 lenL (some v_law_row)) (some (1 : Int)))))
def f_law_wild (v_law_rows : (List (List (List Int)))) (v_law_d : (List Int)) : Option (P4 Int Int Int Int) := finF (S := Unit) (R := (P4 Int Int Int Int)) 
  (b1 (fun v_law_some => (b1 (fun v_law_sweep => (bindF (S1 := (List Int)) (iteM (andM (b2 neM (some v_law_some) (b1 shortM (some ([] : List (P4 Int Int Int Int))))) (b2 gtI (b2 modI (b2 divI (b2 atI (some v_law_d) (some (0 : Int))) (some (2 : Int))) (some (3 : Int))) (some (0 : Int))))
    (b1 (fun v_law_sweep => (bindF (S1 := (List Int)) (iteM (b2 eqM (b2 modI (b2 divI (b2 atI (some v_law_d) (some (0 : Int))) (some (6 : Int))) (some (3 : Int))) (some (1 : Int)))
    (b1 (fun v_law_at => (b2 (fun v z => setIM v_law_sweep z v fun v_law_sweep => (some (Fl.nx v_law_sweep))) (b2 atI (b1 shortM (b2 consM (b2 subI (b2 atI (some v_law_sweep) (some v_law_at)) (some (1 : Int))) (b2 consM (b2 addI (b2 atI (some v_law_sweep) (some v_law_at)) (some (1 : Int))) (b2 consM (b1 negI (some (1 : Int))) (b2 consM (some (12 : Int)) (b2 consM (b2 powI (some (10 : Int)) (some (20 : Int))) (b2 consM (b2 subI (some (1 : Int)) (b2 atI (some v_law_sweep) (some v_law_at))) (some ([] : List Int))))))))) (b2 modI (b2 atI (some v_law_d) (some (3 : Int))) (some (6 : Int)))) (some v_law_at)))
    (b2 modI (b2 atI (some v_law_d) (some (2 : Int))) (some (4 : Int))))
    (some (Fl.nx v_law_sweep))) fun s3 => (some (Fl.nx s3))))
    (b1 listP4 (b2 atI (some v_law_some) (b2 modI (b2 atI (some v_law_d) (some (1 : Int))) (b1 lenL (some v_law_some))))))
    (some (Fl.nx v_law_sweep))) fun s2 => (b1 (fun r => some (Fl.rt r)) (b4 mk4 (b2 atI (some s2) (some (0 : Int))) (b2 atI (some s2) (some (1 : Int))) (b2 atI (some s2) (some (2 : Int))) (b2 atI (some s2) (some (3 : Int)))))))
    (b1 shortM (b2 consM (b2 modI (b2 atI (some v_law_d) (some (0 : Int))) (some (2 : Int))) (b2 consM (b2 modI (b2 atI (some v_law_d) (some (1 : Int))) (some (4 : Int))) (b2 consM (b2 modI (b2 atI (some v_law_d) (some (2 : Int))) (some (13 : Int))) (b2 consM (b2 modI (b2 atI (some v_law_d) (some (3 : Int))) (some (13 : Int))) (some ([] : List Int)))))))))
    (b1 f_law_sweeps (some v_law_rows)))
end Kj

set_option Elab.async false
set_option linter.all false
set_option maxRecDepth 100000
set_option maxHeartbeats 4000000
/-! Kj50: a new list that holds the caller's own data. -/
namespace Kj
open PySem L2
abbrev SpecO := List Abs → AbsO → Prop
def spRO (S : SpecO) : Sp := fun vs H Q _ => ∃ As B Hr, S As B ∧ Same Hr H ∧ AllP As vs Hr ∧ ∀ p o H' Hr', Ext H Hr H' Hr' → H' p = none → B.p p o Hr' → Q (.ref p) (upd H' p o)
/-- the slot remembers what could be read ahead of all -/
def aKp (Hk : Hp) (A : Abs) : Abs := ⟨fun v G => A.p v G ∧ Same Hk G, fun v G G' s h => ⟨A.mono _ _ _ s h.1, h.2.trans s⟩⟩
/-- a list of its own that was not there before -/
def aFr (Hk : Hp) (B : AbsO) : Abs := ⟨fun v G => ∃ p o, v = .ref p ∧ G p = some o ∧ Hk p = none ∧ B.p p o (rm G p), fun v G G' s ⟨p, o, e, h, n, b⟩ => ⟨p, o, e, s _ _ h, n, B.mono _ _ _ _ (rm_mono p s) b⟩⟩
section
variable {G : WK} {H0 : Hp} {ρ ρ' : List Slot} {K : PySem.W.Frag} {f fa fb fc fd : Bool} {ta tb tc td te : TE} {α β γ δ ε S R : Type} {u : TS}
end
section
variable {P : Program} {w : World} {K : PySem.W.Frag} {mg : Str → Option Value} {base : Heap}
/-- the first slot remembers -/
def keep1 (Hk : Hp) : List Abs → List Slot
  | [] => []
  | A :: As => .new (aKp Hk A) :: As.map Slot.new
end
section
variable {H0 : Hp} {ρ ρ' : List Slot} {K : PySem.W.Frag} {ta tb tc td te : TE} {α β γ δ ε : Type} {A : α → Abs} {B : β → Abs} {D : δ → Abs} {E' : ε → Abs}
def so4 (A : α → Abs) (B : β → Abs) (D : δ → Abs) (E' : ε → Abs) (C : γ → AbsO) (F : α → β → δ → ε → Option γ) : SpecO := fun As O => ∃ a b d e c, As = [A a, B b, D d, E' e] ∧ F a b d e = some c ∧ O = C c
end
section
variable {H0 : Hp} {ρ : List Slot} {f : Bool} {ta tb tc td te tf : TE} {α β δ ε ζ η γ : Type} {A : α → Abs} {B : β → Abs} {D : δ → Abs} {E' : ε → Abs} {G : ζ → Abs} {I : η → Abs} {C : γ → Abs} {ma : Option α} {mb : Option β} {md : Option δ} {me : Option ε} {mg : Option ζ} {mi : Option η} {Ex : XK}
end
end Kj

set_option Elab.async false
set_option linter.all false
set_option maxRecDepth 100000
set_option maxHeartbeats 4000000
/-! Kj51: list(d.items()) of a dict whose keys are tuples. -/
namespace Kj
open PySem PySem.W PySem.Calls PySem.Spec PyProof.Rows PyProof.V L2
section
variable {prog : Program} {w : World} {A : Around} {E : Value → Shared → Prop} {s : Shared} {r d : Addr} {es : Array DictEntry} {ep : Nat}
end
/-- list(e.items()): kvs with the keys' tuples -/
def rItemsLT : V → Hp → VK → Prop := fun x H Q => ∃ (d : Addr) (kvs : List (List Key × V)), x = .ref d ∧ H d = some (.dT kvs) ∧
  ∀ (H' : Hp) (p : Addr) (ts : List Addr) (bs : List (V × V)), (∀ b o, H b = some o → H' b = some o) → H p = none → (∀ t ∈ ts, H t = none) → p ∉ ts → H' p = some (.lst (ts.map V.ref)) →
    Paired (fun (q : List Key × V) (b : V × V) => ∃ a, b.1 = .ref a ∧ H a = some (.tup (q.1.map kV)) ∧ b.2 = q.2) kvs bs → Paired (fun (t : Addr) (b : V × V) => H' t = some (.tup [b.1, b.2])) ts bs → Q (.ref p) H'
def tListItemsT (te : TE) : TE := fun σ H Q => te σ H fun x H1 => rItemsLT x H1 Q
section
variable {X : Cx} {e : Expr} {te : TE} {p apos cpos pos : Pos}
end
end Kj

set_option Elab.async false
set_option linter.all false
set_option maxRecDepth 100000
set_option maxHeartbeats 4000000
/-! Kj52: the place of a list in a list of lists; sum. -/
namespace Kj
open PySem L2
def idxF {α : Type} [DecidableEq α] (v : α) : List α → Option Nat
  | [] => none
  | x :: xs => if x = v then some 0 else (idxF v xs).map (· + 1)
def idxLM (xs : List (List Int)) (v : List Int) : Option Int := (idxF v xs).map Int.ofNat
def sumM (xs : List Int) : Option Int := some xs.sum
section
variable {H0 : Hp} {ρ : List Slot} {K : PySem.W.Frag} {fa fb : Bool} {ta te : TE}
end
end Kj

set_option Elab.async false
set_option linter.all false
set_option maxRecDepth 100000
set_option maxHeartbeats 4000000
namespace Kj
open PySem L2
def f_law_orders (v_law_row : (List Int)) : Option (List (List Int)) := finF (S := Unit) (R := (List (List Int))) 
  (b1 (fun v_law_found => (bindF (S1 := (List (List Int))) (b1 (fun xs => forF (fun x2 s1 => (b1 (fun v_law_longer => (bindF (S1 := (List (List Int))) (b1 (fun xs => forF (fun x8 s7 => (b1 (fun v_law_longer => (some (Fl.nx v_law_longer)))
    (b2 catM (some s7) (b1 (lcM fun x10 => lcE (some true) (b2 catM (b2 catM (b3 cutM (some x8) noneM (someM (some x10))) (b1 shortM (b2 consM (some x2) (some ([] : List Int))))) (b3 cutM (some x8) (someM (some x10)) noneM))) (b1 rngM (b2 addI (b1 lenL (some x8)) (some (1 : Int)))))))) xs v_law_longer) (some s1)) fun s7 => (b1 (fun v_law_found => (some (Fl.nx v_law_found)))
    (some s7))))
    (b1 shortM (some ([] : List (List Int)))))) xs v_law_found) (some v_law_row)) fun s1 => (b1 (fun r => some (Fl.rt r)) (some s1))))
    (b1 shortM (b2 consM (b1 shortM (some ([] : List Int))) (some ([] : List (List Int))))))
end Kj

set_option Elab.async false
set_option linter.all false
set_option maxRecDepth 100000
set_option maxHeartbeats 4000000
/-! Kj53: a dict whose keys are tuples, with the keys' own addresses. -/
namespace Kj
open PySem PySem.W PySem.Calls PySem.Spec PyProof.Rows PyProof.V L2
abbrev DL := List (List Key × Addr × V)
def DRel (L : DL) (xs : List (List Key × Addr × Value)) : Prop := Paired (fun (p : List Key × Addr × V) (q : List Key × Addr × Value) => p.1 = q.1 ∧ p.2.1 = q.2.1 ∧ RelV p.2.2 q.2.2) L xs
def dxφ (P : Program) (w : World) (d : Addr) (L : DL) : Heap → Prop := fun h => L.length ≤ sizeLine ∧ (d == sysModules) = false ∧ ∃ xs, DRel L xs ∧ ∃ o es ep, h.get? d = some o ∧ o.ExactDict ∧ o.data = .dict es ep ∧ es.toList = xs.map (entryOfKey (tupleKind (mixKind P w))) ∧ (xs.map (·.1)).Nodup
def dxO (P : Program) (w : World) (d : Addr) (L : DL) : HO := .ext (dxφ P w d L)
def valX (L : DL) (k : List Key) : Option V := (L.find? fun x => decide (x.1 = k)).map (·.2.2)
def putX (L : DL) (k : List Key) (b : Addr) (v : V) : DL := if (valX L k).isSome = true then L.map (fun x => if x.1 = k then (x.1, x.2.1, v) else x) else L ++ [(k, b, v)]
theorem DRel.val {L : DL} {xs : List (List Key × Addr × Value)} (r : DRel L xs) (k : List Key) : RelO (valX L k) ((atKey xs k).map (·.2)) := by
  induction r with
  | nil => exact True.intro
  | @cons p q ps qs h t ih =>
    obtain ⟨h1, _, h2⟩ := h
    by_cases e : p.1 = k
    · have e' : q.1 = k := h1.symm.trans e
      have b : atKey (q :: qs) k = some q.2 := by simp [atKey, List.find?_cons, e']
      have a : valX (p :: ps) k = some p.2.2 := by simp [valX, List.find?_cons, e]
      rw [a, b]; exact h2
    · have e' : ¬ q.1 = k := fun z => e (h1.trans z)
      have b : atKey (q :: qs) k = atKey qs k := by simp [atKey, List.find?_cons, e']
      have a : valX (p :: ps) k = valX ps k := by simp [valX, List.find?_cons, e]
      rw [a, b]; exact ih
theorem DRel.put {L : DL} {xs : List (List Key × Addr × Value)} (r : DRel L xs) (k : List Key) (b : Addr) {v : V} {u : Value} (rv : RelV v u) : DRel (putX L k b v) (storedH xs k b u) := by
  have e : (valX L k).isSome = (atKey xs k).isSome := by
    rw [(r.val k).isSome_eq, Option.isSome_map]
  unfold putX storedH
  rw [e]
  by_cases q : (atKey xs k).isSome = true
  · rw [if_pos q, if_pos q]
    clear e q
    induction r with
    | nil => exact .nil
    | @cons p q ps qs h t ih =>
      rw [List.map_cons, List.map_cons]
      refine .cons ?_ ih
      obtain ⟨h1, h2, h3⟩ := h
      unfold putAt
      by_cases e : p.1 = k
      · rw [if_pos e, if_pos (h1.symm.trans e)]; exact ⟨h1, h2, rv⟩
      · rw [if_neg e, if_neg (fun z => e (h1.trans z))]; exact ⟨h1, h2, h3⟩
  · rw [if_neg q, if_neg q]
    exact Paired.snoc r ⟨rfl, rfl, rv⟩
/-- the keys' tuples are there -/
def KeysIn (H : Hp) (L : DL) : Prop := ∀ x ∈ L, H x.2.1 = some (.tup (x.1.map kV))
theorem KeysIn.of {P : Program} {w : World} {H : Hp} {h : Heap} (ok : HOk P w H h) {L : DL} {xs : List (List Key × Addr × Value)} (r : DRel L xs) (hK : KeysIn H L) : ∀ x ∈ xs, (tupleKind (mixKind P w)).is h x.1 x.2.1 := by
  induction r with
  | nil => intro x hx; cases hx
  | @cons p q ps qs h t ih =>
    intro x hx
    rcases List.mem_cons.mp hx with e | hx
    · subst e
      obtain ⟨h1, h2, _⟩ := h
      rw [← h1, ← h2]
      exact key_of ok (hK p List.mem_cons_self)
    · exact ih (fun y hy => hK y (List.mem_cons_of_mem _ hy)) x hx
def tDNewX (P : Program) (w : World) : TE := fun _ H Q => ∀ p, H p = none → Q (.ref p) (upd H p (dxO P w p []))
/-- d.get(k, z) -/
def tDGetX (P : Program) (w : World) (td ty tx : TE) : TE := fun σ H Q => td σ H fun x H1 => ∃ a L1, x = .ref a ∧ H1 a = some (dxO P w a L1) ∧ ty σ H1 fun y H2 => tx σ H2 fun z H3 =>
  ∃ L k b, H3 a = some (dxO P w a L) ∧ KeysIn H3 L ∧ y = .ref b ∧ H3 b = some (.tup (k.map kV)) ∧ Q ((valX L k).getD z) H3
def sDPutX (P : Program) (w : World) (td ty tv : TE) : TS := fun D σ H => tv σ H fun v H1 => td σ H1 fun x H2 => ty σ H2 fun y H3 =>
  ∃ a L k b, x = .ref a ∧ H3 a = some (dxO P w a L) ∧ KeysIn H3 L ∧ L.length < 100000 ∧ y = .ref b ∧ H3 b = some (.tup (k.map kV)) ∧ D.nx σ (upd H3 a (dxO P w a (putX L k b v)))
def rItemsX (P : Program) (w : World) : V → Hp → VK → Prop := fun x H Q => ∃ (d : Addr) (L : DL), x = .ref d ∧ H d = some (dxO P w d L) ∧
  ∀ (H' : Hp) (p : Addr) (ts : List Addr), (∀ b o, H b = some o → H' b = some o) → H p = none → (∀ t ∈ ts, H t = none) → p ∉ ts → H' p = some (.lst (ts.map V.ref)) → Paired (fun (t : Addr) (x : List Key × Addr × V) => H' t = some (.tup [.ref x.2.1, x.2.2])) ts L → Q (.ref p) H'
def tListItemsX (P : Program) (w : World) (te : TE) : TE := fun σ H Q => te σ H fun x H1 => rItemsX P w x H1 Q
section
variable {X : Cx} {e o f : Expr} {te td ty tx tv : TE} {p apos cpos pos pos' : Pos}
end
end Kj

set_option Elab.async false
set_option linter.all false
set_option maxRecDepth 100000
set_option maxHeartbeats 4000000
/-! Kj54: dicts from tuples of texts to lists of numbers, one's own. -/
namespace Kj
open PySem PySem.SeqAt PySem.W PyProof.Rows L2
abbrev Dt := List (P2 (Tp Str) (List Int))
def kts (t : Tp Str) : List Key := t.items.map Sum.inr
theorem kts_inj {a b : Tp Str} (h : kts a = kts b) : a = b := by
  obtain ⟨x⟩ := a; obtain ⟨y⟩ := b
  have : ∀ {x y : List Str}, x.map (Sum.inr : Str → Key) = y.map Sum.inr → x = y := by
    intro x
    induction x with
    | nil => intro y e; cases y with
      | nil => rfl
      | cons _ _ => cases e
    | cons a x ih => intro y e; cases y with
      | nil => cases e
      | cons b y =>
        rw [List.map_cons, List.map_cons] at e
        injection e with e1 e2
        rw [Sum.inr.inj e1, ih e2]
  exact congrArg Tp.mk (this h)
/-- a tuple of texts that stands on the heap -/
def aTq (t : Tp Str) : Abs := ⟨fun v H => ∃ b, v = .ref b ∧ H b = some (.tup ((kts t).map kV)), fun v H H' s ⟨b, e, h⟩ => ⟨b, e, s _ _ h⟩⟩
abbrev PD (K : PySem.W.Frag) (H : Hp) (L : DL) (d : Dt) : Prop := Paired (fun (x : List Key × Addr × V) (q : P2 (Tp Str) (List Int)) => x.1 = kts q.a ∧ H x.2.1 = some (.tup (x.1.map kV)) ∧ Dp K H x.2.2 (en q.b)) L d
theorem PD.mono {K : PySem.W.Frag} {H H' : Hp} {L : DL} {d : Dt} (h : PD K H L d) (s : Same H H') : PD K H' L d := Paired.mapP h fun _ _ z => ⟨z.1, s _ _ z.2.1, dp_mono s _ _ z.2.2⟩
def oD (P : Program) (w : World) (K : PySem.W.Frag) (d : Dt) : AbsO := ⟨fun p o H => ∃ L, o = dxO P w p L ∧ PD K H L d, fun _ _ _ _ s ⟨L, e, h⟩ => ⟨L, e, h.mono s⟩⟩
def getT (d : Dt) (k : Tp Str) : Option (List Int) := (d.find? fun q => decide (q.a = k)).map P2.b
def putT (d : Dt) (k : Tp Str) (v : List Int) : Dt := if (getT d k).isSome = true then d.map (fun q => if q.a = k then ⟨q.a, v⟩ else q) else d ++ [⟨k, v⟩]
def getTM (d : Dt) (k : Tp Str) (z : List Int) : Option (List Int) := some ((getT d k).getD z)
def putTM {β : Type} (d : Dt) (k : Tp Str) (v : List Int) (c : Dt → Option β) : Option β := if d.length < 100000 then c (putT d k v) else none
theorem PD.keys {K : PySem.W.Frag} {H : Hp} {L : DL} {d : Dt} (h : PD K H L d) : KeysIn H L := by
  induction h with
  | nil => intro x hx; cases hx
  | @cons a b as bs h t ih =>
    intro x hx
    rcases List.mem_cons.mp hx with e | hx
    · subst e; exact h.2.1
    · exact ih x hx
theorem PD.val {K : PySem.W.Frag} {H : Hp} {L : DL} {d : Dt} (h : PD K H L d) (k : Tp Str) : (valX L (kts k) = none ∧ getT d k = none) ∨ ∃ v x, valX L (kts k) = some v ∧ getT d k = some x ∧ Dp K H v (en x) := by
  induction h with
  | nil => exact .inl ⟨rfl, rfl⟩
  | @cons a b as bs h t ih =>
    by_cases e : b.a = k
    · refine .inr ⟨a.2.2, b.b, ?_, ?_, h.2.2⟩
      · have : a.1 = kts k := by rw [h.1, e]
        simp [valX, List.find?_cons, this]
      · simp [getT, List.find?_cons, e]
    · have e2 : ¬ a.1 = kts k := fun z => e (kts_inj (h.1.symm.trans z))
      have a1 : valX (a :: as) (kts k) = valX as (kts k) := by simp [valX, List.find?_cons, e2]
      have a2 : getT (b :: bs) k = getT bs k := by simp [getT, List.find?_cons, e]
      rw [a1, a2]
      exact ih
theorem PD.put {K : PySem.W.Frag} {H : Hp} {L : DL} {d : Dt} (h : PD K H L d) {k : Tp Str} {b : Addr} {v : V} {x : List Int} (hb : H b = some (.tup ((kts k).map kV))) (hv : Dp K H v (en x)) : PD K H (putX L (kts k) b v) (putT d k x) := by
  have e : (valX L (kts k)).isSome = (getT d k).isSome := by
    rcases h.val k with ⟨h1, h2⟩ | ⟨v, x, h1, h2, _⟩ <;> rw [h1, h2] <;> rfl
  unfold putX putT
  rw [e]
  by_cases q : (getT d k).isSome = true
  · rw [if_pos q, if_pos q]
    clear e q
    induction h with
    | nil => exact .nil
    | @cons a b as bs h t ih =>
      rw [List.map_cons, List.map_cons]
      refine .cons ?_ ih
      by_cases e : b.a = k
      · rw [if_pos (show a.1 = kts k by rw [h.1, e]), if_pos e]
        exact ⟨h.1, h.2.1, hv⟩
      · rw [if_neg (fun z => e (kts_inj (h.1.symm.trans z))), if_neg e]
        exact h
  · rw [if_neg q, if_neg q]
    exact Paired.snoc h ⟨rfl, hb, hv⟩
section
variable {Gw : WK} {H0 : Hp} {ρ ρ' : List Slot} {K : PySem.W.Frag} {P : Program} {w : World} {f fa fb : Bool} {ta tb te : TE} {S R : Type} {A : R → Abs} {B : S → List Slot} {u : TS}
end
end Kj

set_option Elab.async false
set_option linter.all false
set_option maxRecDepth 100000
set_option maxHeartbeats 4000000
namespace Kj
open PySem L2
def f_taken_at (v_deal : DealT) (v_unread : (List Int)) (v_plan : (List (P2 (Tp Str) (P4 Int Int Int Int)))) (v_verse : Int) : Option (Option Int) := finF (S := Unit) (R := (Option Int)) 
  (b1 (fun _ => (b1 (fun _ => (b1 (fun v_syllables => (b1 (fun v_heard => (b1 (fun r => some (Fl.rt r)) (b2 mnDO (b1 (lcM fun x2 => lcE (b3 f_is_taken (some v_deal) (some v_verse) (some x2.b)) (b1 lenTM (some x2.a))) (some v_heard)) (some (none : (Option Int))))))
    (b1 (lcM fun x1 => lcE (b2 f_begins (b1 listTM (some x1.a)) (some v_syllables)) (b2 mk2 (some x1.a) (some x1.b))) (some v_plan))))
    (b2 f_Book_verse (b1 f_Deal_book (some v_deal) ) (some v_verse)))) (b3 f_check_plan (some v_deal) (some v_unread) (some v_plan)))) (b2 f_check_verse (b1 f_Deal_book (some v_deal) ) (some v_verse)))
def f_starts (v_deal : DealT) (v_unread : (List Int)) : Option (List (P2 (Tp Str) (List Int))) := finF (S := Unit) (R := (List (P2 (Tp Str) (List Int)))) 
  (b1 (fun v_book => (b1 (fun v_found => (bindF (S1 := Dt) (b1 (fun xs => forF (fun x2 s1 => (bindF (S1 := Dt) (iteM ((b2 f_Deal_where (some v_deal) (some x2)).map Option.isSome)
    (b1 (fun v_beginning => (b2 (fun v z => putTM s1 z v fun v_found => (some (Fl.nx v_found))) (b2 catM (b2 (getTM s1) (some v_beginning) (b1 shortM (some ([] : List Int)))) (b1 shortM (b2 consM (some x2) (some ([] : List Int))))) (some v_beginning)))
    (b1 tupM (b3 cutM (b2 f_Book_verse (some v_book) (some x2)) noneM (someM (b3 f_moment (some v_deal) (some v_unread) (some x2))))))
    (some (Fl.nx s1))) fun s4 => (some (Fl.nx s4)))) xs v_found) (b2 f_rising (some v_book) (some v_unread))) fun s1 => (b1 (fun r => some (Fl.rt r)) (some s1)))) (some ([] : Dt))))
    (b1 f_Deal_book (some v_deal) ))
def f_earliest (v_deal : DealT) (v_unread : (List Int)) : Option (List (P2 (Tp Str) (P4 Int Int Int Int))) := finF (S := Unit) (R := (List (P2 (Tp Str) (P4 Int Int Int Int)))) 
  (b1 (fun r => some (Fl.rt r)) (b1 lim (b1 (catF fun x1 => iteM (some true) (b1 (catF fun x2 => iteM (some true) (b1 one1 (b2 mk2 (some x1.a) (some x2))) (some [])) (b2 f_Deal_cover (some v_deal) (some x1.b))) (some [])) (b2 f_starts (some v_deal) (some v_unread)))))
end Kj

set_option Elab.async false
set_option linter.all false
set_option maxRecDepth 100000
set_option maxHeartbeats 4000000
/-! Kj55: a list made by a comprehension with several fors, one's own; slices of tuples. -/
namespace Kj
open PySem L2
section
variable {Gw : WK} {H0 : Hp} {ρ ρ' : List Slot} {K : PySem.W.Frag} {f fa fb fc : Bool} {ta tb tc te : TE} {α β γ δ S S1 R : Type} {A : R → Abs} {B : S → List Slot} {t u w : TS}
def cutTM {α : Type} (x : Tp α) (lo hi : Option Int) : Option (Tp α) := some ⟨cutD x.items lo hi⟩
end
end Kj

set_option Elab.async false
set_option linter.all false
set_option maxRecDepth 100000
set_option maxHeartbeats 4000000
/-! Kj56: what is new as a whole. -/
namespace Kj
open PySem L2
def upG (Gs : Nat → Hp) (i : Nat) (G : Hp) : Nat → Hp := fun j => if j = i then G else Gs j
/-- a reading that gives a new thing, all of it outside of what there was -/
def DMr (H0 : Hp) (ρ : List Slot) (t : TE) {α : Type} (A : α → Abs) (m : Option α) : Prop := ∀ x, m = some x → ∀ (σ : St) (H Hr : Hp) (Q : VK), EnvOk H0 σ ρ H Hr →
  (∀ v H1 G, Same H H1 → (A x).p v G → (∀ a o, G a = some o → H1 a = some o ∧ H a = none) → Q v H1) → t σ H Q
section
variable {Gw : WK} {H0 : Hp} {ρ ρ' : List Slot} {K : PySem.W.Frag} {f fa fb fc : Bool} {ta tb tc te : TE} {α β γ δ S S1 R : Type} {A : R → Abs} {B : S → List Slot} {t u w : TS} {Ax : α → Abs}
end
end Kj

set_option Elab.async false
set_option linter.all false
set_option maxRecDepth 100000
set_option maxHeartbeats 4000000
/-! Kj57: new lists of new lists. -/
namespace Kj
open PySem L2
def vOf : PyData → V
  | .bool b => .bl b
  | .int i => .int i
  | .str s => .str s
  | _ => .non
theorem dp_vOf {K : PySem.W.Frag} {H : Hp} {d : PyData} {v : V} (hs : scD d = true) (h : Dp K H v d) : v = vOf d := by
  cases h with
  | non => rfl
  | bl b => rfl
  | int i => rfl
  | str x => rfl
  | lst _ _ => cases hs
  | tup _ _ => cases hs
theorem vOf_dp {K : PySem.W.Frag} {H : Hp} {d : PyData} (hs : scD d = true) : Dp K H (vOf d) d := by
  cases d with
  | none => exact .non
  | bool b => exact .bl b
  | int i => exact .int i
  | str x => exact .str x
  | list _ => cases hs
  | tuple _ => cases hs
  | dict _ => cases hs
abbrev rowV {α : Type} [Enc α] (x : List α) : List V := x.map fun a => vOf (en a)
theorem rowV_dp {α : Type} [Enc α] [Flt α] {K : PySem.W.Frag} {H : Hp} : ∀ x : List α, DpAll K H (rowV x) (x.map en)
  | [] => .nil
  | a :: x => .cons (vOf_dp (Flt.fl a)) (rowV_dp x)
def RowsG {α : Type} [Enc α] (H : Hp) (rs : List Addr) (xs : List (List α)) : Prop := Paired (fun (r : Addr) (x : List α) => H r = some (.lst (rowV x))) rs xs
theorem RowsG.keep {α : Type} [Enc α] {H H' : Hp} {rs : List Addr} {xs : List (List α)} (h : RowsG H rs xs) (s : ∀ r ∈ rs, ∀ o, H r = some o → H' r = some o) : RowsG H' rs xs := by
  unfold RowsG at *
  induction h with
  | nil => exact .nil
  | cons a t ih => exact .cons (s _ (by simp) _ a) (ih fun r hr => s r (by simp [hr]))
theorem RowsG.dp {α : Type} [Enc α] [Flt α] {K : PySem.W.Frag} {H : Hp} {rs : List Addr} {xs : List (List α)} (h : RowsG H rs xs) : DpAll K H (rs.map .ref) (xs.map en) := by
  unfold RowsG at h
  induction h with
  | nil => exact .nil
  | cons a t ih => exact .cons (.lst (SqL.of a) (rowV_dp _)) ih
def uniH (Hr G : Hp) : Hp := fun b => match Hr b with | some o => some o | none => G b
def resH (l : List Addr) (G : Hp) : Hp := fun a => if a ∈ l then G a else none
/-- a list of lists, each of them another one -/
def aTr {α : Type} [Enc α] (xs : List (List α)) : Abs := ⟨fun v H => ∃ p rs, v = .ref p ∧ H p = some (.lst (rs.map .ref)) ∧ RowsG H rs xs ∧ (p :: rs).Nodup, fun v H H' s z => by
  obtain ⟨p, rs, e, h, t, n⟩ := z
  exact ⟨p, rs, e, s _ _ h, t.keep fun r _ o z => s _ _ z, n⟩⟩
section
variable {Gw : WK} {H0 : Hp} {ρ ρ' : List Slot} {K : PySem.W.Frag} {f fa fb fc : Bool} {ta tb tc te : TE} {α β γ δ S S1 R : Type} {A : R → Abs} {B : S → List Slot} {t u w : TS} {Ax : α → Abs} {Bx : β → Abs} {Cx : γ → Abs}
/-! calls -/
/-! a comprehension that makes lists -/
end
end Kj

set_option Elab.async false
set_option linter.all false
set_option maxRecDepth 100000
set_option maxHeartbeats 4000000
/-! Kj58: loops over a new list of new lists, each of them changed in its turn. -/
namespace Kj
open PySem L2
/-- the very value -/
def aIs (x : V) : Abs := ⟨fun v _ => v = x, fun _ _ _ _ h => h⟩
def noDatB (ρ : List Slot) (i : Nat) : Prop := ∀ (m : Nat) (A : Abs), m ≠ i → ρ[m]? ≠ some (.dat A)
end Kj

set_option Elab.async false
set_option linter.all false
set_option maxRecDepth 100000
set_option maxHeartbeats 4000000
/-! Kj59: such a loop; calls that change what they are given. -/
namespace Kj
open PySem L2
/-- a list of one's own at a known place -/
def oP {α : Type} [Enc α] (r : Addr) (x : List α) : AbsO := ⟨fun a o _ => a = r ∧ o = .lst (rowV x), fun _ _ _ _ _ h => h⟩
def aTrP {α : Type} [Enc α] (p : Addr) (rs : List Addr) (xs : List (List α)) : Abs := ⟨fun v H => v = .ref p ∧ H p = some (.lst (rs.map .ref)) ∧ RowsG H rs xs ∧ (p :: rs).Nodup, fun v H H' s z => by
  obtain ⟨e, h, t, n⟩ := z
  exact ⟨e, s _ _ h, t.keep fun r _ o z => s _ _ z, n⟩⟩
theorem RowsG.at {α : Type} [Enc α] {H : Hp} : ∀ {rs : List Addr} {xs : List (List α)}, RowsG H rs xs → ∀ {k : Nat} {x : List α}, xs[k]? = some x → ∃ r, rs[k]? = some r ∧ H r = some (.lst (rowV x))
  | _, _, .nil, k, x, e => by simp at e
  | _, _, .cons a t, 0, x, e => by simp at e; subst e; exact ⟨_, rfl, a⟩
  | _, _, .cons a t, k + 1, x, e => RowsG.at t (by simpa using e)
theorem RowsG.put {α : Type} [Enc α] {H H' : Hp} {y : List α} {r : Addr} : ∀ {rs : List Addr} {xs : List (List α)} {k : Nat}, RowsG H rs xs → rs.Nodup → rs[k]? = some r → (∀ a ∈ rs, a ≠ r → ∀ o, H a = some o → H' a = some o) → H' r = some (.lst (rowV y)) → RowsG H' rs (xs.set k y)
  | _, _, k, .nil, _, e, _, _ => by simp at e
  | _, _, 0, .cons a t, nd, e, s, h => by
    simp at e
    subst e
    refine .cons h (RowsG.keep t fun b hb o q => s b (by simp [hb]) (fun z => ?_) o q)
    subst z; exact (List.nodup_cons.mp nd).1 hb
  | _, _, k + 1, .cons a t, nd, e, s, h => by
    have e' := (by simpa using e : _ = some r)
    refine .cons (s _ (by simp) (fun z => ?_) _ a) (RowsG.put t (List.nodup_cons.mp nd).2 e' (fun b hb => s b (by simp [hb])) h)
    subst z; exact (List.nodup_cons.mp nd).1 (List.mem_of_getElem? e')
section
variable {Gw : WK} {H0 : Hp} {ρ ρ' : List Slot} {K : PySem.W.Frag} {f fa fb fc : Bool} {ta tb tc te : TE} {α β γ δ S S1 R : Type} {A : R → Abs} {B : S → List Slot} {t u w : TS} {Ax : α → Abs} {Bx : β → Abs} {C : WZ}
end
end Kj

set_option Elab.async false
set_option linter.all false
set_option maxRecDepth 100000
set_option maxHeartbeats 4000000
/-! Kj60: programs that change lists in lists. -/
namespace Kj
open PySem L2
def noDatF (ρ : List Slot) : Bool := ρ.all fun s => match s with | .dat _ => false | _ => true
def nxO {S R : Type} (m : Option (Fl S R)) : Option S := m.bind fun fl => match fl with | .nx s => some s | _ => none
def mapL {α β : Type} (f : α → Option β) : List α → Option (List β)
  | [] => some []
  | x :: xs => (f x).bind fun y => (mapL f xs).bind fun ys => some (y :: ys)
def popRM {α β : Type} (xs : List α) (k : List α → Option β) : Option β := if xs = [] then none else k xs.dropLast
section
variable {Gw : WK} {H0 : Hp} {ρ ρ' : List Slot} {K : PySem.W.Frag} {f fa fb fc : Bool} {ta tb tc te : TE} {α β γ δ S S1 S2 R R2 : Type} {A : R → Abs} {A2 : R2 → Abs} {B : S → List Slot} {t u w : TS} {Ax : α → Abs} {Bx : β → Abs} {C : WZ}
/-! one list of them -/
/-! the list of them -/
theorem RowsG.last {α : Type} [Enc α] {H : Hp} {rs : List Addr} {xs : List (List α)} (h : RowsG H rs xs) : RowsG H rs.dropLast xs.dropLast := by
  unfold RowsG at *
  induction h with
  | nil => exact .nil
  | @cons a b as bs h t ih =>
    cases t with
    | nil => exact .nil
    | cons h' t' => exact .cons h ih
end
/-! defs that change what they are given -/
def spW (K : PySem.W.Frag) {α β : Type} [Enc α] [Enc β] (F : List (List α) → β → Option Unit) : Sp := fun vs H Q _ => ∃ v0 v1 a b G, vs = [v0, v1] ∧ F a b = some () ∧ (aTr a).p v0 G ∧ (∀ J, Dp K J v1 (en b)) ∧ (∀ x o, G x = some o → H x = some o) ∧ ∀ H', (∀ x o, H x = some o → G x = none → H' x = some o) → Q .non H'
section
variable {P : Program} {w : World} {K : PySem.W.Frag} {mg : Str → Option Value} {base : Heap}
end
section
variable {Gw : WK} {H0 : Hp} {ρ ρ' : List Slot} {K : PySem.W.Frag} {f fa fb fc : Bool} {ta tb tc te : TE} {α β γ δ S S1 R : Type} {A : R → Abs} {B : S → List Slot} {t u w : TS}
end
end Kj

set_option Elab.async false
set_option linter.all false
set_option maxRecDepth 100000
set_option maxHeartbeats 4000000
/-! Kj61: objects that keep the first thing that they are given, and nothing else of it; a new list put behind new lists. -/
namespace Kj
open PySem L2
def spIM (S : List Abs → List (Str × Abs) → Prop) (C : Addr) : Sp := fun vs H Q _ => ∃ x dx A0 As fas v0 rest Hr, vs = .ref x :: v0 :: rest ∧ H x = some (.ins C dx []) ∧ S (A0 :: As) fas ∧ Same Hr (rm H x) ∧ A0.p v0 Hr ∧ AllP As rest (rm H x) ∧
  ∀ H' Hr' fs, Ext (rm H x) Hr (rm H' x) Hr' → H' x = some (.ins C dx fs) → FAll fas fs Hr' → Q .non H'
section
variable {Gw : WK} {C' : WZ} {H0 : Hp} {ρ ρ' : List Slot} {K : PySem.W.Frag} {f fa fb fc : Bool} {ta tb tc te : TE} {α β γ δ ε S S1 R : Type} {A : R → Abs} {B : S → List Slot} {t u w : TS} {C : Addr} {fas : List (Str × Abs)}
theorem RowsG.mem [Enc α] {H : Hp} {rs : List Addr} {xs : List (List α)} (h : RowsG H rs xs) {r : Addr} (hr : r ∈ rs) : ∃ o, H r = some o := by
  unfold RowsG at h
  induction h with
  | nil => cases hr
  | cons a t ih =>
    rcases List.mem_cons.mp hr with z | z
    · rw [z]; exact ⟨_, a⟩
    · exact ih z
end
section
variable {P : Program} {w : World} {K : PySem.W.Frag} {mg : Str → Option Value} {base : Heap}
end
end Kj

set_option Elab.async false
set_option linter.all false
set_option maxRecDepth 100000
set_option maxHeartbeats 4000000
/-! Kj62: a pair that holds None or a list of its own. -/
namespace Kj
open PySem L2
def rsS {α : Type} (m : Option (Rs α)) : Option (Rs (Option α)) := m.map fun r => match r with | .ok x => .ok (some x) | .ex e => .ex e
section
variable {W : WX} {Gw : WK} {H0 : Hp} {ρ ρ' : List Slot} {K K' : PySem.W.Frag} {f fa fb fc : Bool} {ta tb tc te : TE} {α β γ δ S S1 R : Type} {A : R → Abs} {B : S → List Slot} {t u w : TS}
def aTO [Enc α] (K : PySem.W.Frag) (x : P2 Str (Option (List α))) : Abs := ⟨fun v H => ∃ q w, v = .ref q ∧ H q = some (.tup [.str x.a, w]) ∧ (aEoO K x.b).p w H, fun v H H' s z => by
  obtain ⟨q, w, e, h, a⟩ := z
  exact ⟨q, w, e, s _ _ h, (aEoO K x.b).mono _ _ _ s a⟩⟩
def spTO {α β γ : Type} (x : P2 α (Option (List β))) (k : Option γ) : Option γ := match x.b with | some xs => if xs.length < 100000 then k else none | none => none
end
end Kj

set_option Elab.async false
set_option linter.all false
set_option maxRecDepth 100000
set_option maxHeartbeats 4000000
/-! Kj63: new lists of new lists of new lists. -/
namespace Kj
open PySem L2
abbrev T3 := List (Addr × List Addr)
def Rows3 {α : Type} [Enc α] (H : Hp) (T : T3) (xss : List (List (List α))) : Prop := Paired (fun (t : Addr × List Addr) (xs : List (List α)) => H t.1 = some (.lst (t.2.map .ref)) ∧ RowsG H t.2 xs) T xss
abbrev all3 (T : T3) : List Addr := T.flatMap fun t => t.1 :: t.2
theorem Rows3.keep {α : Type} [Enc α] {H H' : Hp} {T : T3} {xss : List (List (List α))} (h : Rows3 H T xss) (s : ∀ a ∈ all3 T, ∀ o, H a = some o → H' a = some o) : Rows3 H' T xss := by
  unfold Rows3 at *
  induction h with
  | nil => exact .nil
  | cons a t ih =>
    refine .cons ⟨s _ (by simp) _ a.1, a.2.keep fun r hr o q => s r (by simp [hr]) o q⟩ (ih fun r hr => s r ?_)
    rw [all3, List.flatMap_cons, List.mem_append]
    exact .inr hr
def aL3 {α : Type} [Enc α] (xss : List (List (List α))) : Abs := ⟨fun v H => ∃ p T, v = .ref p ∧ H p = some (.lst (T.map fun t => .ref t.1)) ∧ Rows3 H T xss ∧ (p :: all3 T).Nodup, fun v H H' s z => by
  obtain ⟨p, T, e, h, t, n⟩ := z
  exact ⟨p, T, e, s _ _ h, t.keep fun r _ o z => s _ _ z, n⟩⟩
theorem Rows3.dp {α : Type} [Enc α] [Flt α] {K : PySem.W.Frag} {H : Hp} {T : T3} {xss : List (List (List α))} (h : Rows3 H T xss) : DpAll K H (T.map fun t => .ref t.1) (xss.map en) := by
  unfold Rows3 at h
  induction h with
  | nil => exact .nil
  | cons a t ih => exact .cons (.lst (SqL.of a.1) a.2.dp) ih
theorem RowsG.mem' {α : Type} [Enc α] {H : Hp} {rs : List Addr} {xs : List (List α)} (h : RowsG H rs xs) : ∀ r ∈ rs, ∃ o, H r = some o := by
  unfold RowsG at h
  induction h with
  | nil => intro r hr; cases hr
  | cons a t ih =>
    intro r hr
    rcases List.mem_cons.mp hr with z | z
    · rw [z]; exact ⟨_, a⟩
    · exact ih r z
theorem Rows3.mem {α : Type} [Enc α] {H : Hp} {T : T3} {xss : List (List (List α))} (h : Rows3 H T xss) : ∀ a ∈ all3 T, ∃ o, H a = some o := by
  unfold Rows3 at h
  induction h with
  | nil => intro a ha; cases ha
  | cons a t ih =>
    intro b hb
    rw [all3, List.flatMap_cons, List.mem_append] at hb
    rcases hb with hb | hb
    · rcases List.mem_cons.mp hb with z | z
      · rw [z]; exact ⟨_, a.1⟩
      · exact a.2.mem' b z
    · exact ih b hb
section
variable {Gw : WK} {H0 : Hp} {ρ ρ' : List Slot} {K : PySem.W.Frag} {f fa fb fc : Bool} {ta tb tc te : TE} {α β γ δ S S1 R : Type} {A : R → Abs} {B : S → List Slot} {t u w : TS} {Ax : α → Abs}
end
end Kj

set_option Elab.async false
set_option linter.all false
set_option maxRecDepth 100000
set_option maxHeartbeats 4000000
/-! Kj64: a row of such lists is changed. -/
namespace Kj
open PySem L2
theorem Rows3.at {α : Type} [Enc α] {H : Hp} : ∀ {T : T3} {xss : List (List (List α))}, Rows3 H T xss → ∀ {m : Nat} {xs : List (List α)}, xss[m]? = some xs → ∃ t, T[m]? = some t ∧ H t.1 = some (.lst (t.2.map .ref)) ∧ RowsG H t.2 xs
  | _, _, .nil, m, xs, e => by simp at e
  | _, _, .cons a t, 0, xs, e => by simp at e; subst e; exact ⟨_, rfl, a⟩
  | _, _, .cons a t, m + 1, xs, e => Rows3.at t (by simpa using e)
theorem Rows3.put {α : Type} [Enc α] {H H' : Hp} {ys : List (List α)} {r : Addr} {t0 : Addr × List Addr} : ∀ {T : T3} {xss : List (List (List α))} {m : Nat}, Rows3 H T xss → (all3 T).Nodup → T[m]? = some t0 → r ∈ t0.2 → (∀ a ∈ all3 T, a ≠ r → ∀ o, H a = some o → H' a = some o) → RowsG H' t0.2 ys → Rows3 H' T (xss.set m ys)
  | _, _, m, .nil, _, e, _, _, _ => by simp at e
  | t :: T, _, 0, .cons a tl, nd, e, hr, s, h => by
    simp at e
    subst e
    rw [all3, List.flatMap_cons, List.nodup_append] at nd
    have n1 := (List.nodup_cons.mp nd.1).1
    refine .cons ⟨s _ (by simp) (fun z => n1 (by rw [z]; exact hr)) _ a.1, h⟩ (Rows3.keep tl fun b hb o q => s b (by rw [all3, List.flatMap_cons, List.mem_append]; exact .inr hb) (fun z => ?_) o q)
    exact nd.2.2 r (List.mem_cons_of_mem _ hr) b hb z.symm
  | t :: T, _, m + 1, .cons a tl, nd, e, hr, s, h => by
    have e' := (by simpa using e : T[m]? = some t0)
    rw [all3, List.flatMap_cons, List.nodup_append] at nd
    have hin : r ∈ all3 T := List.mem_flatMap.mpr ⟨t0, List.mem_of_getElem? e', List.mem_cons_of_mem _ hr⟩
    have off : ∀ b ∈ t.1 :: t.2, b ≠ r := fun b hb z => nd.2.2 b hb r hin z
    refine .cons ⟨s _ (by simp) (off _ List.mem_cons_self) _ a.1, a.2.keep fun b hb o q => s b (by simp [hb]) (off b (List.mem_cons_of_mem _ hb)) o q⟩ (Rows3.put tl nd.2.1 e' hr (fun b hb => s b (by rw [all3, List.flatMap_cons, List.mem_append]; exact .inr hb)) h)
def app3M {α γ : Type} (xss : List (List (List α))) (a b : Int) (v : α) (k : List (List (List α)) → Option γ) : Option γ := (ixN xss.length a).bind fun m => (xss[m]?).bind fun xs => (ixN xs.length b).bind fun n => (xs[n]?).bind fun row => if row.length < 100000 then k (xss.set m (xs.set n (row ++ [v]))) else none
section
variable {Gw : WK} {H0 : Hp} {ρ ρ' : List Slot} {K : PySem.W.Frag} {f fa fb fc : Bool} {ta tb tc te : TE} {α β γ δ S S1 R : Type} {A : R → Abs} {B : S → List Slot} {t u w : TS} {Ax : α → Abs}
end
end Kj

set_option Elab.async false
set_option linter.all false
set_option maxRecDepth 100000
set_option maxHeartbeats 4000000
/-! Kj65: {**d, k: v}. -/
namespace Kj
open PySem PySem.Spec PyProof.Rows L2
section
variable {prog : Program} {w : World} {A : Around} {E : Value → Shared → Prop} {s : Shared}
end
end Kj

set_option Elab.async false
set_option linter.all false
set_option maxRecDepth 100000
set_option maxHeartbeats 4000000
/-! Kj66: dict comprehensions with one and two fors; a dict that stays as it is; {**d, k: v}. -/
namespace Kj
open PySem PySem.Spec PyProof.Rows L2
def rnInD (P : Program) (w : World) (A : Around) (env : Env) (kx vx : Expr) (acc : Addr) : Rn := fun s Po => wpAny (model P w) A (eval kx env) (fun x s1 => wpAny (model P w) A (eval vx env) (fun y s2 => wpAny (model P w) A (dictSet acc x y) (fun _ s3 => Po s3) FF s2) FF s1) FF s
section
variable {P : Program} {w : World} {A : Around} {env : Env} {c t0 j0 j1 kx vx : Expr} {ifs0 : List Expr} {k : Nat} {it : Addr} {acc : Addr} {pk : Pos}
end
section
variable {P : Program} {w : World} {A : Around} {env : Env} {kx vx t0 i0 t1 i1 : Expr} {f0 f1 : List Expr} {scope : Scope} {pos : Pos} {it : Addr} {acc : Addr}
end
def bInD (tk tv : TE) (D : Addr) : Bd := fun σ H Nx => tk σ H fun y H1 => tv σ H1 fun z H2 => ∃ kvs k, y = kV k ∧ H2 D = some (.dK kvs) ∧ kvs.length < sizeLine ∧ Nx (upd H2 D (.dK (putK kvs k z)))
def tDcN (wi : TI) (g : TG) (tt : TT) (B : Addr → Bd) (us : List Nat) : TE := fun σ H Q => wi σ H fun J H1 => ∀ D, H1 D = none → LpR J g tt (B D) us σ (upd H1 D (.dK [])) fun H' => ∃ kvs, H' D = some (.dK kvs) ∧ ∀ od, Q (.ref D) (upd H' D (.frz od (.dK kvs)))
section
variable {X : Cx}
end
end Kj

set_option Elab.async false
set_option linter.all false
set_option maxRecDepth 100000
set_option maxHeartbeats 4000000
/-! Kj67: {**d, k: v}. -/
namespace Kj
open PySem PySem.Spec PyProof.Rows L2
section
variable {P : Program} {w : World} {A : Around} {E : Value → Shared → Prop} {s : Shared}
end
def tDMerge (td tk tv : TE) : TE := fun σ H Q => ∀ D, H D = none → td σ (upd H D (.dK [])) fun x H1 => ∃ a kvs, x = .ref a ∧ Rd H1 a (.dK kvs) ∧ D ≠ a ∧ H1 D = some (.dK []) ∧ kvs.length < 100000 ∧
  ∀ S, H1 S = none → tk σ (upd (upd H1 D (.dK (mergeK [] kvs))) S (.dK [])) fun y H2 => tv σ H2 fun z H3 => ∃ k, y = kV k ∧ H3 S = some (.dK []) ∧ H3 D = some (.dK (mergeK [] kvs)) ∧
    ∀ od, Q (.ref D) (upd (upd H3 S (.dK [(k, z)])) D (.frz od (.dK (putK (mergeK [] kvs) k z))))
section
variable {X : Cx}
end
end Kj

set_option Elab.async false
set_option linter.all false
set_option maxRecDepth 100000
set_option maxHeartbeats 4000000
/-! Kj68: dicts from numbers, as data. -/
namespace Kj
open PySem L2
abbrev Dm (α : Type) := List (Int × α)
def valD {α : Type} (m : Dm α) (k : Int) : Option α := (m.find? fun x => decide (x.1 = k)).map (·.2)
def putD {α : Type} (m : Dm α) (k : Int) (v : α) : Dm α := if (m.any fun x => decide (x.1 = k)) = true then m.map (fun x => if x.1 = k then (x.1, v) else x) else m ++ [(k, v)]
def mergeD {α : Type} (m more : Dm α) : Dm α := more.foldl (fun acc x => putD acc x.1 x.2) m
def enP {α : Type} [Enc α] (x : Int × α) : Int × PyData := (x.1, en x.2)
def DRd (K : PySem.W.Frag) (H : Hp) (kvs : List (Key × V)) (m : Dm PyData) : Prop := Paired (fun (p : Key × V) (x : Int × PyData) => p.1 = Sum.inl x.1 ∧ Dp K H p.2 x.2) kvs m
theorem DRd.keep {K : PySem.W.Frag} {H H' : Hp} (s : Same H H') {kvs : List (Key × V)} {m : Dm PyData} (h : DRd K H kvs m) : DRd K H' kvs m := by
  unfold DRd at *
  induction h with
  | nil => exact .nil
  | cons a t ih => exact .cons ⟨a.1, dp_mono s _ _ a.2⟩ ih
theorem DRd.app {K : PySem.W.Frag} {H : Hp} {kvs ls : List (Key × V)} {m n : Dm PyData} (h : DRd K H kvs m) (h2 : DRd K H ls n) : DRd K H (kvs ++ ls) (m ++ n) := by
  unfold DRd at *
  induction h with
  | nil => exact h2
  | cons a t ih => exact .cons a ih
theorem DRd.any {K : PySem.W.Frag} {H : Hp} {kvs : List (Key × V)} {m : Dm PyData} (h : DRd K H kvs m) (k : Int) : (kvs.any fun kv => decide (kv.1 = (Sum.inl k : Key))) = m.any fun x => decide (x.1 = k) := by
  unfold DRd at h
  induction h with
  | nil => rfl
  | @cons p x ps xs a t ih =>
    rw [List.any_cons, List.any_cons, ih, a.1]
    congr 1
    by_cases e : x.1 = k
    · rw [decide_eq_true e, decide_eq_true (by rw [e])]
    · rw [decide_eq_false e, decide_eq_false (fun z => e (Sum.inl.inj z))]
theorem DRd.put {K : PySem.W.Frag} {H : Hp} {kvs : List (Key × V)} {m : Dm PyData} (h : DRd K H kvs m) {k : Int} {v : V} {d : PyData} (hv : Dp K H v d) : DRd K H (putK kvs (Sum.inl k) v) (putD m k d) := by
  unfold putK putD
  rw [h.any k]
  by_cases e : (m.any fun x => decide (x.1 = k)) = true
  · rw [if_pos e, if_pos e]
    clear e
    unfold DRd at *
    induction h with
    | nil => exact .nil
    | @cons p x ps xs a t ih =>
      rw [List.map_cons, List.map_cons]
      refine .cons ?_ ih
      by_cases e : x.1 = k
      · rw [if_pos (by rw [a.1, e]), if_pos e]; exact ⟨a.1, hv⟩
      · rw [if_neg (by rw [a.1]; exact fun z => e (Sum.inl.inj z)), if_neg e]; exact a
  · rw [if_neg e, if_neg e]
    exact Paired.snoc h ⟨rfl, hv⟩
theorem DRd.val {K : PySem.W.Frag} {H : Hp} {kvs : List (Key × V)} {m : Dm PyData} (h : DRd K H kvs m) (k : Int) : (∃ v d, valV kvs (Sum.inl k : Key) = some v ∧ valD m k = some d ∧ Dp K H v d) ∨ (valV kvs (Sum.inl k : Key) = none ∧ valD m k = none) := by
  unfold DRd at h
  induction h with
  | nil => exact .inr ⟨rfl, rfl⟩
  | @cons p x ps xs a t ih =>
    by_cases e : x.1 = k
    · exact .inl ⟨p.2, x.2, by simp [valV, List.find?_cons, a.1, e], by simp [valD, List.find?_cons, e], a.2⟩
    · have e' : ¬ p.1 = (Sum.inl k : Key) := by rw [a.1]; exact fun z => e (Sum.inl.inj z)
      have h1 : valV (p :: ps) (Sum.inl k : Key) = valV ps (Sum.inl k) := valV_neg e'
      have h2 : valD (x :: xs) k = valD xs k := by simp [valD, List.find?_cons, e]
      rw [h1, h2]; exact ih
def aDd (K : PySem.W.Frag) (m : Dm PyData) : Abs := ⟨fun v H => ∃ p od kvs, v = .ref p ∧ H p = some (.frz od (.dK kvs)) ∧ DRd K H kvs m, fun v H H' s z => by
  obtain ⟨p, od, kvs, e, h, r⟩ := z
  exact ⟨p, od, kvs, e, s _ _ h, r.keep s⟩⟩
abbrev aDm {α : Type} [Enc α] (K : PySem.W.Frag) (m : Dm α) : Abs := aDd K (m.map enP)
/-! comprehensions -/
def DBdD (K : PySem.W.Frag) (H0 : Hp) (ρ : List Slot) (f : Bool) (B : Addr → Bd) (ys : Dm PyData) : Prop :=
  ∀ (D : Addr) (σ : St) (H Hr : Hp) (acc : List (Key × V)) (Nx : Hp → Prop), EnvOk H0 σ ρ H Hr → OffD ρ σ D → H0 D = none → Hr D = none → H D = some (.dK acc) → acc.length + ys.length ≤ 100000 →
    (∀ H' Hr' zs, ExtX D H Hr H' Hr' → Hr' D = none → H' D = some (.dK (mergeK acc zs)) → DRd K (hp f Hr' H0) zs ys → Nx H') → B D σ H Nx
def totP (ys : Nat → Dm PyData) : Nat → Dm PyData
  | 0 => []
  | n + 1 => totP ys n ++ ys n
theorem DRd.length {K : PySem.W.Frag} {H : Hp} {kvs : List (Key × V)} {m : Dm PyData} (h : DRd K H kvs m) : kvs.length = m.length := Paired.length h
section
variable {H0 : Hp} {ρ ρ' : List Slot} {K : PySem.W.Frag} {f fa fb fk : Bool} {ta tb te tk tv td : TE} {α β γ : Type}
/-! by programs -/
def limD {β : Type} (xs : Dm β) : Option (Dm β) := if xs.length ≤ 100000 then some (mergeD [] xs) else none
def pr1 {β : Type} (k : Int) (v : β) : Option (Dm β) := some [(k, v)]
def DBmD (K : PySem.W.Frag) (H0 : Hp) (ρ : List Slot) (f : Bool) (B : Addr → Bd) {β : Type} [Enc β] (m : Option (Dm β)) : Prop := ∀ ys, m = some ys → DBdD K H0 ρ f B (ys.map enP)
/-! what is asked of them -/
def getDM {α : Type} (m : Dm α) (k : Int) : Option α := valD m k
def hasDM {α : Type} (m : Dm α) (k : Int) : Option Bool := some (valD m k).isSome
def findDM {α : Type} (m : Dm α) (k : Int) : Option (Option α) := some (valD m k)
def dmrgM {α : Type} (m : Dm α) (k : Int) (v : α) : Option (Dm α) := if m.length < 50000 then some (putD (mergeD [] m) k v) else none
def itemsM {α : Type} (m : Dm α) : Option (List (P2 Int α)) := some (m.map fun x => ⟨x.1, x.2⟩)
theorem DRd.at {K : PySem.W.Frag} {H : Hp} : ∀ {kvs : List (Key × V)} {m : Dm PyData}, DRd K H kvs m → ∀ {j : Nat} {k : Key} {v : V}, kvs[j]? = some (k, v) → ∃ x, m[j]? = some x ∧ k = Sum.inl x.1 ∧ Dp K H v x.2
  | _, _, .nil, j, _, _, e => by simp at e
  | _, _, .cons a t, 0, _, _, e => by simp at e; subst e; exact ⟨_, rfl, a.1, a.2⟩
  | _, _, .cons a t, j + 1, _, _, e => DRd.at t (j := j) (by simpa using e)
end
end Kj

set_option Elab.async false
set_option linter.all false
set_option maxRecDepth 100000
set_option maxHeartbeats 4000000
namespace Kj
open PySem L2
def f_minus (v_one : (P2 Int Int)) (v_other : (P2 Int Int)) : Option (P2 Int Int) := finF (S := Unit) (R := (P2 Int Int)) 
  (b1 (fun r => some (Fl.rt r)) (b2 f_plus (some v_one) (b2 mk2 (b1 negI ((some v_other).map P2.a)) ((some v_other).map P2.b))))
def f_less (v_one : (P2 Int Int)) (v_other : (P2 Int Int)) : Option Bool := finF (S := Unit) (R := Bool) 
  (b1 (fun r => some (Fl.rt r)) (b2 ltI ((b2 f_minus (some v_one) (some v_other)).map P2.a) (some (0 : Int))))
def f_bonds (v_book : BookT) (v_unread : (List Int)) : Option (Dm (List (P2 Int Int))) := finF (S := Unit) (R := (Dm (List (P2 Int Int)))) 
  (b1 (fun v_verses => (b1 (fun r => some (Fl.rt r)) (b1 limD (b1 (catF fun x1 => iteM (some true) (b2 pr1 (some x1) (b1 (lcM fun x2 => lcE (b2 neM (some x2) (some x1)) (b2 mk2 (some x2) (b3 f_shared (some v_book) (some x1) (some x2)))) (some v_verses))) (some [])) (some v_verses)))))
    (b2 f_rising (some v_book) (some v_unread)))
def f_homes (v_deal : DealT) : Option (Dm Int) := finF (S := Unit) (R := (Dm Int)) 
  (b1 (fun r => some (Fl.rt r)) (b1 limD (b1 (catF fun x1 => iteM (some true) (b1 (catF fun x2 => iteM (some true) (b2 pr1 (some x2) (some x1)) (some [])) (b2 f_Deal_cards (some v_deal) (some x1))) (some [])) (b1 rngM (some (2 : Int))))))
def f_total_wait (v_sharing : (Dm (List (P2 Int Int)))) (v_places : (Dm Int)) : Option (P2 Int Int) := finF (S := Unit) (R := (P2 Int Int)) 
  (b1 (fun v_total => (bindF (S1 := (P2 Int Int)) (b1 (fun xs => forF (fun x2 s1 => (bindF (S1 := (P2 Int Int)) (iteM (b2 (fun i m => hasDM m i) (some x2.a) (some v_places))
    (b1 (fun v_sizes => (b1 (fun v_total => (some (Fl.nx v_total)))
    (b2 f_plus (some s1) (b1 f_mean_size (some v_sizes)))))
    (b1 (lcM fun x8 => lcE (b2 neM (b2 findDM (some v_places) (some x8.a)) ((b2 getDM (some v_places) (some x2.a)).map some)) (some x8.b)) (some x2.b)))
    (some (Fl.nx s1))) fun s7 => (some (Fl.nx s7)))) xs v_total) (b1 itemsM (some v_sharing))) fun s1 => (b1 (fun r => some (Fl.rt r)) (some s1))))
    (some (⟨0, 1⟩ : P2 Int Int)))
def f_waiting (v_deal : DealT) (v_unread : (List Int)) : Option (P2 Int Int) := finF (S := Unit) (R := (P2 Int Int)) 
  (b1 (fun r => some (Fl.rt r)) (b2 f_total_wait (b2 f_bonds (b1 f_Deal_book (some v_deal) ) (some v_unread)) (b1 f_homes (some v_deal))))
def f_best_gift (v_deal : DealT) (v_unread : (List Int)) (v_field : Int) : Option (Option (P2 Int (P2 Int Int))) := finF (S := Unit) (R := (Option (P2 Int (P2 Int Int)))) 
  (b1 (fun v_sharing => (b1 (fun v_cards => (b1 (fun v_places => (b1 (fun v_best => (bindF (S1 := (Option (P2 Int (P2 Int Int)))) (b1 (fun xs => forF (fun x2 s1 => (b1 (fun v_wait => (bindF (S1 := (Option (P2 Int (P2 Int Int)))) (iteM (orM ((some s1).map Option.isNone) (b2 f_less (some v_wait) (((some s1).bind id).map P2.b)))
    (b1 (fun v_best => (some (Fl.nx v_best)))
    ((b2 mk2 (some x2) (some v_wait)).map some))
    (some (Fl.nx s1))) fun s4 => (some (Fl.nx s4))))
    (b2 f_total_wait (some v_sharing) (b3 dmrgM (some v_places) (some x2) (b2 subI (some (1 : Int)) (some v_field)))))) xs v_best) (some v_cards)) fun s1 => (b1 (fun r => some (Fl.rt r)) (some s1))))
    (some (none : (Option (P2 Int (P2 Int Int)))))))
    (b1 f_homes (some v_deal))))
    (b1 sortedM (b2 f_Deal_cards (some v_deal) (some v_field)))))
    (b2 f_bonds (b1 f_Deal_book (some v_deal) ) (some v_unread)))
end Kj

set_option Elab.async false
set_option linter.all false
set_option maxRecDepth 100000
set_option maxHeartbeats 4000000
/-! Kj69: what raises inside the arguments of a call. -/
namespace Kj
open PySem L2
def RA (W : WX) (H0 : Hp) (ρ : List Slot) (t : TA) (X : XA) : Prop := ∀ (σ : St) (H Hr : Hp) (Q : List V → Hp → Prop), EnvOk H0 σ ρ H Hr → (∀ cls d H' Hr', Ext H Hr H' Hr' → X cls d H' → W cls d σ H') → t σ H Q
section
variable {W : WX} {H0 : Hp} {ρ : List Slot} {K : PySem.W.Frag} {f fa : Bool} {ta te : TE} {t : TA} {X : XA} {α : Type} {A : α → Abs}
end
end Kj

set_option Elab.async false
set_option linter.all false
set_option maxRecDepth 100000
set_option maxHeartbeats 4000000
/-! Kj70: a row of new lists of lists of lists by another name, changed by it; own lists of things of any kind. -/
namespace Kj
open PySem L2
/-- such lists, r the row at m, n -/
def aAl {α : Type} [Enc α] (r : Addr) (m n : Nat) (xss : List (List (List α))) (row : List α) : Abs := ⟨fun v H => ∃ p T t0 xs, v = .ref p ∧ H p = some (.lst (T.map fun t => .ref t.1)) ∧ Rows3 H T xss ∧ (p :: all3 T).Nodup ∧ T[m]? = some t0 ∧ t0.2[n]? = some r ∧ xss[m]? = some xs ∧ xs[n]? = some row, fun v H H' s z => by
  obtain ⟨p, T, t0, xs, e, h, t, nd, z⟩ := z
  exact ⟨p, T, t0, xs, e, s _ _ h, t.keep fun r _ o z => s _ _ z, nd, z⟩⟩
def al3M {α γ : Type} (xss : List (List (List α))) (a b : Int) (k : Nat → Nat → List α → Option γ) : Option γ := (ixN xss.length a).bind fun m => (xss[m]?).bind fun xs => (ixN xs.length b).bind fun n => (xs[n]?).bind fun row => k m n row
def put3 {α : Type} (xss : List (List (List α))) (m n : Nat) (row : List α) : List (List (List α)) := xss.set m ((xss.getD m []).set n row)
def insM {γ : Type} {α : Type} (xss : List (List (List α))) (m n : Nat) (row : List α) (i : Int) (v : α) (k : List (List (List α)) → Option γ) : Option γ := if row.length < 100000 ∧ 0 ≤ i ∧ i < 1000000 then k (put3 xss m n (row.take i.toNat ++ [v] ++ row.drop i.toNat)) else none
section
variable {Gw : WK} {H0 : Hp} {ρ ρ' : List Slot} {K : PySem.W.Frag} {f fa fb fc : Bool} {ta tb tc te : TE} {α β γ δ S S1 R : Type} {A : R → Abs} {B : S → List Slot} {t u w : TS} {Ax : α → Abs}
end
end Kj

set_option Elab.async false
set_option linter.all false
set_option maxRecDepth 100000
set_option maxHeartbeats 4000000
/-! Kj71: own lists of things of any kind. -/
namespace Kj
open PySem L2
def oLA {α : Type} (Ax : α → Abs) (xs : List α) : AbsO := ⟨fun _ o H => ∃ vs, o = .lst vs ∧ AllP (xs.map Ax) vs H, fun _ _ _ _ s ⟨vs, e, h⟩ => ⟨vs, e, h.mono s⟩⟩
theorem AllP.snoc {H : Hp} : ∀ {As : List Abs} {vs : List V} {A : Abs} {v : V}, AllP As vs H → A.p v H → AllP (As ++ [A]) (vs ++ [v]) H
  | _, _, _, _, .nil, h => .cons h .nil
  | _, _, _, _, .cons a t, h => .cons a (AllP.snoc t h)
section
variable {Gw : WK} {H0 : Hp} {ρ ρ' : List Slot} {K : PySem.W.Frag} {f fa fb fc : Bool} {ta tb tc te : TE} {α β γ δ S S1 R : Type} {A : R → Abs} {B : S → List Slot} {t u w : TS} {Ax : α → Abs}
/-- an item of such a list, its things new -/
theorem AllP.at {H : Hp} : ∀ {As : List Abs} {vs : List V}, AllP As vs H → ∀ {j : Nat} {A : Abs}, As[j]? = some A → ∃ v, vs[j]? = some v ∧ A.p v H
  | _, _, .nil, j, A, e => by simp at e
  | _, _, .cons a t, 0, A, e => by simp at e; subst e; exact ⟨_, rfl, a⟩
  | _, _, .cons a t, j + 1, A, e => AllP.at t (j := j) (by simpa using e)
end
end Kj

set_option Elab.async false
set_option linter.all false
set_option maxRecDepth 100000
set_option maxHeartbeats 4000000
/-! Kj72: methods whose result may be the caller's own, with two and three arguments. -/
namespace Kj
open PySem L2
section
variable {H0 : Hp} {ρ ρ' : List Slot} {K : PySem.W.Frag} {f fa fb fc : Bool} {ta tb tc td te : TE} {α β γ δ ε : Type}
variable {A1 : α → Abs} {B1 : β → Abs} {D1 : δ → Abs} {E1 : ε → Abs} {C1 : γ → Abs} {Ex : XK} {ma : Option α} {mb : Option β} {md : Option δ} {me : Option ε}
variable {Cl : Addr} {m : Str} {O : α → List (Str × Abs)}
end
end Kj

set_option Elab.async false
set_option linter.all false
set_option maxRecDepth 100000
set_option maxHeartbeats 4000000
namespace Kj
open PySem L2
def f_check_room (v_cards : (List Int)) : Option Unit := finN (S := Unit) 
  (bindF (S1 := Unit) (iteM (b2 geI (b1 lenL (some v_cards)) (some (12 : Int)))
    none
    (some (Fl.nx ()))) fun s1 => (some (Fl.nx ())))
def f_fields_without (v_deal : DealT) (v_verse : Int) : Option (List (List (List Int))) := finF (S := Unit) (R := (List (List (List Int)))) 
  (b1 (fun r => some (Fl.rt r)) (b1 (lcM fun x1 => lcE (some true) (b1 (lcM fun x2 => lcE (some true) (b1 (lcM fun x3 => lcE (b2 neM (some x3) (some v_verse)) (some x3)) (some x2))) (b2 f_Deal_rows (some v_deal) (some x1)))) (b1 rngM (some (2 : Int)))))
def f_Deal_sent (v_self : DealT) (v_verse : Int) (v_row : Int) : Option DealT := finF (S := Unit) (R := DealT) 
  (b1 (fun v_other => (b1 (fun _ => (b1 (fun v_fields => (b1 (fun _ => (b3 (fun a b v => app3M v_fields a b v fun v_fields => (b1 (fun r => some (Fl.rt r)) (b3 f_Deal___init__ ((some v_self).map DealT.source) (b2 atI (some v_fields) (some (0 : Int))) (b2 atI (some v_fields) (some (1 : Int)))))) (some v_other) (some v_row) (some v_verse))) (b1 f_check_room (b2 atI (b2 atI (some v_fields) (some v_other)) (some v_row)))))
    (b2 f_fields_without (some v_self) (some v_verse)))) (b3 f_check_row (some v_self) (some v_other) (some v_row))))
    (b2 subI (some (1 : Int)) (b2 f_card_field (some v_self) (some v_verse))))
def f_Deal_moved (v_self : DealT) (v_verse : Int) (v_row : Int) (v_place : Int) : Option DealT := finF (S := Unit) (R := DealT) 
  (b1 (fun v_field => (b1 (fun _ => (b1 (fun v_fields => (b2 (fun a b => al3M v_fields a b fun m_v_cards n_v_cards v_cards_r => (b1 (fun _ => (bindF (S1 := Unit) (iteM (notM (chM leI leI (some (0 : Int)) (some v_place) (b1 lenL (some v_cards_r))))
    none
    (some (Fl.nx ()))) fun s1 => (b2 (fun a b => insM v_fields m_v_cards n_v_cards v_cards_r a b fun v_fields => (b1 (fun r => some (Fl.rt r)) (b3 f_Deal___init__ ((some v_self).map DealT.source) (b2 atI (some v_fields) (some (0 : Int))) (b2 atI (some v_fields) (some (1 : Int)))))) (some v_place) (some v_verse)))) (b1 f_check_room (some v_cards_r)))) (some v_field) (some v_row)))
    (b2 f_fields_without (some v_self) (some v_verse)))) (b3 f_check_row (some v_self) (some v_field) (some v_row))))
    (b2 f_card_field (some v_self) (some v_verse)))
end Kj

set_option Elab.async false
set_option linter.all false
set_option maxRecDepth 100000
set_option maxHeartbeats 4000000
/-! Kj73: changes of a deal, as tuples of several kinds; results of which nothing is said. -/
namespace Kj
open PySem L2
inductive Ch where
  | w (v : Int)
  | s (v r : Int)
  | m (v r p : Int)
  deriving DecidableEq
def Ch.tag : Ch → Str | .w _ => "without" | .s _ _ => "sent" | .m _ _ _ => "moved"
def Ch.v : Ch → Int | .w v => v | .s v _ => v | .m v _ _ => v
def Ch.r : Ch → Option Int | .w _ => none | .s _ r => some r | .m _ r _ => some r
def Ch.p : Ch → Option Int | .w _ => none | .s _ _ => none | .m _ _ p => some p
def Ch.enc : Ch → PyData
  | .w v => .tuple [.str "without", .int v]
  | .s v r => .tuple [.str "sent", .int v, .int r]
  | .m v r p => .tuple [.str "moved", .int v, .int r, .int p]
instance : Enc Ch := ⟨Ch.enc, fun x => by cases x <;> simp [Ch.enc, PyData.plain, PyData.plainAll], 1, fun x => by cases x <;> simp [Ch.enc, PyData.depth, PyData.depthAll], fun x y => by
  cases x <;> cases y <;> simp [Ch.enc, PyData.eqv, PyData.eqvAll]⟩
instance : EncN Ch := ⟨fun x => by cases x <;> exact ⟨by show PyData.eqv .none (.tuple _) = false; simp [PyData.eqv], by show PyData.eqv (.tuple _) .none = false; simp [PyData.eqv], rfl⟩⟩
def chW (v : Int) : Option Ch := some (.w v)
def chS (v r : Int) : Option Ch := some (.s v r)
def chMv (v r p : Int) : Option Ch := some (.m v r p)
def aAny {α : Type} (_ : α) : Abs := ⟨fun _ _ => True, fun _ _ _ _ _ => trivial⟩
section
variable {H0 : Hp} {ρ : List Slot} {K : PySem.W.Frag} {f fa fb fc : Bool} {ta tb tc te : TE} {α : Type} {A : α → Abs}
end
section
variable {W : WX} {H0 : Hp} {ρ ρ' : List Slot} {K : PySem.W.Frag} {f f' fa fb fc fd fe : Bool} {te t' ta tb tc td : TE} {X : XA} {α β γ δ ε : Type} {B : β → Abs} {R : γ → Abs} {D : δ → Abs} {E' : ε → Abs} {C : Addr} {O : α → List (Str × Abs)} {m : Str}
end
end Kj

set_option Elab.async false
set_option linter.all false
set_option maxRecDepth 100000
set_option maxHeartbeats 4000000
namespace Kj
open PySem L2
def f_Book_verses (v_self : BookT) : Option (List (List Str)) := finF (S := Unit) (R := (List (List Str))) 
  (b1 (fun r => some (Fl.rt r)) (b1 (lcM fun x1 => lcE (some true) (b1 listM (some x1))) ((some v_self).map BookT.lines)))
def f_Deal_cards_x (v_self : DealT) (v_field : Int) : Option (Rs (List Int)) := finX (S := Unit) (R := (List Int)) 
  (bX (fun r => some (Fl.rt r)) (rsM (fun mz => (b1 lim (b1 (catF fun x1 => iteM (some true) (b1 (catF fun x2 => iteM (some true) (b1 one1 (some x2)) (some [])) (some x1)) (some [])) mz))) (b2 f_Deal_rows_x (some v_self) (some v_field))))
def f_check_room_x (v_cards : (List Int)) : Option (Rs Unit) := finXN (S := Unit) 
  (bindF (S1 := Unit) (iteM (b2 geI (b1 lenL (some v_cards)) (some (12 : Int)))
    (some (Fl.ex ⟨"Full", []⟩))
    (some (Fl.nx ()))) fun s1 => (some (Fl.nx ())))
def f_Deal_cover_x (v_self : DealT) (v_verses : (List Int)) : Option (Rs (List (P4 Int Int Int Int))) := finX (S := Unit) (R := (List (P4 Int Int Int Int))) 
  (bX (fun v_wanted => (b1 (fun v_sweeps => (bindF (S1 := (List (P4 Int Int Int Int))) (b1 (fun xs => forF (fun x2 s1 => (bindF (S1 := (List (P4 Int Int Int Int))) (b1 (fun xs => forF (fun x10 s9 => (b1 (fun v_places => (bindF (S1 := (List (P4 Int Int Int Int))) (iteM ((some v_places).map fun xs => !xs.isEmpty)
    (b1 (fun x => appM s9 x fun v_sweeps => (some (Fl.nx v_sweeps))) (b4 mk4 (some x2.a) (some x10.a) (b2 atI (some v_places) (some (0 : Int))) (b2 atI (some v_places) (b1 negI (some (1 : Int))))))
    (some (Fl.nx s9))) fun s14 => (some (Fl.nx s14))))
    (b1 (lcM fun x13 => lcE (b2 inM (some x13.b) (some v_wanted)) (some x13.a)) (b1 enumM (some x10.b))))) xs s1) (b1 enumM (some x2.b))) fun s9 => (some (Fl.nx s9)))) xs v_sweeps) (b1 enumM ((some v_self).map DealT.fields))) fun s1 => (b1 (fun r => some (Fl.rt r)) (some s1)))) (some ([] : (List (P4 Int Int Int Int))))))
    (b2 f_rising_x ((some v_self).map DealT.source) (some v_verses)))
def f_Deal_without_x (v_self : DealT) (v_verse : Int) : Option (Rs DealT) := finX (S := Unit) (R := DealT) 
  (bX (fun _ => (b1 (fun v_fields => (b1 (fun r => some (Fl.rt r)) (b3 f_Deal___init__ ((some v_self).map DealT.source) (b2 atI (some v_fields) (some (0 : Int))) (b2 atI (some v_fields) (some (1 : Int))))))
    (b2 f_fields_without (some v_self) (some v_verse)))) (b2 f_card_field_x (some v_self) (some v_verse)))
def f_Deal_sent_x (v_self : DealT) (v_verse : Int) (v_row : Int) : Option (Rs DealT) := finX (S := Unit) (R := DealT) 
  (bX (fun v_other => (bX (fun _ => (b1 (fun v_fields => (bX (fun _ => (b3 (fun a b v => app3M v_fields a b v fun v_fields => (b1 (fun r => some (Fl.rt r)) (b3 f_Deal___init__ ((some v_self).map DealT.source) (b2 atI (some v_fields) (some (0 : Int))) (b2 atI (some v_fields) (some (1 : Int)))))) (some v_other) (some v_row) (some v_verse))) (b1 f_check_room_x (b2 atI (b2 atI (some v_fields) (some v_other)) (some v_row)))))
    (b2 f_fields_without (some v_self) (some v_verse)))) (b3 f_check_row_x (some v_self) (some v_other) (some v_row))))
    (rsM (fun mz => (b2 subI (some (1 : Int)) mz)) (b2 f_card_field_x (some v_self) (some v_verse))))
def f_Deal_moved_x (v_self : DealT) (v_verse : Int) (v_row : Int) (v_place : Int) : Option (Rs DealT) := finX (S := Unit) (R := DealT) 
  (bX (fun v_field => (bX (fun _ => (b1 (fun v_fields => (b2 (fun a b => al3M v_fields a b fun m_v_cards n_v_cards v_cards_r => (bX (fun _ => (bindF (S1 := Unit) (iteM (notM (chM leI leI (some (0 : Int)) (some v_place) (b1 lenL (some v_cards_r))))
    (some (Fl.ex ⟨"NoPlace", []⟩))
    (some (Fl.nx ()))) fun s1 => (b2 (fun a b => insM v_fields m_v_cards n_v_cards v_cards_r a b fun v_fields => (b1 (fun r => some (Fl.rt r)) (b3 f_Deal___init__ ((some v_self).map DealT.source) (b2 atI (some v_fields) (some (0 : Int))) (b2 atI (some v_fields) (some (1 : Int)))))) (some v_place) (some v_verse)))) (b1 f_check_room_x (some v_cards_r)))) (some v_field) (some v_row)))
    (b2 f_fields_without (some v_self) (some v_verse)))) (b3 f_check_row_x (some v_self) (some v_field) (some v_row))))
    (b2 f_card_field_x (some v_self) (some v_verse)))
def f_law_book_told (v_law_book_here : BookT) (v_law_verses : (List (List Str))) : Option Bool := finF (S := Unit) (R := Bool) 
  (bindF (S1 := Unit) (iteM (orM (notM (b2 sameM (b1 f_Book_many (some v_law_book_here) ) (b1 lenL (some v_law_verses)))) (notM (b2 sameM (b1 f_Book_verses (some v_law_book_here) ) (some v_law_verses))))
    (b1 (fun r => some (Fl.rt r)) (some false))
    (some (Fl.nx ()))) fun s1 => (b1 (fun r => some (Fl.rt r)) (b1 allM (b1 (lcM fun x2 => lcE (some true) (b2 sameM (b2 f_Book_verse (some v_law_book_here) (some x2)) (b2 atI (some v_law_verses) (some x2)))) (b1 rngM (b1 lenL (some v_law_verses)))))))
def f_law_deal_told (v_law_deal : DealT) (v_law_verses : (List (List Str))) (v_law_rows : (List (List (List Int)))) : Option Bool := finF (S := Unit) (R := Bool) 
  (bindF (S1 := Unit) (b1 (fun xs => forF (fun x2 s1 => (b1 (fun v_law_cards => (bindF (S1 := (List Int)) (b1 (fun xs => forF (fun x11 s10 => (b1 (fun v_law_cards => (some (Fl.nx v_law_cards)))
    (b2 catM (some s10) (some x11)))) xs v_law_cards) (b2 atI (some v_law_rows) (some x2))) fun s10 => (bindF (S1 := Unit) (iteM (orM (notM (b2 sameM (b2 f_Deal_rows (some v_law_deal) (some x2)) (b2 atI (some v_law_rows) (some x2)))) (notM (b2 sameM (b2 f_Deal_cards (some v_law_deal) (some x2)) (some s10))))
    (b1 (fun r => some (Fl.rt r)) (some false))
    (some (Fl.nx ()))) fun s12 => (some (Fl.nx ())))))
    (b1 shortM (some ([] : List Int))))) xs ()) (b1 rngM (some (2 : Int)))) fun s1 => (bindF (S1 := Unit) (iteM (notM (b2 f_law_book_told (b1 f_Deal_book (some v_law_deal) ) (some v_law_verses)))
    (b1 (fun r => some (Fl.rt r)) (some false))
    (some (Fl.nx ()))) fun s13 => (b1 (fun r => some (Fl.rt r)) (b1 allM (b1 (lcM fun x14 => lcE (some true) (b2 sameM (b2 f_Deal_where (some v_law_deal) (some x14)) (b2 f_law_where (some v_law_rows) (some x14)))) (b1 rngM (b1 lenL (some v_law_verses))))))))
end Kj

set_option Elab.async false
set_option linter.all false
set_option maxRecDepth 100000
set_option maxHeartbeats 4000000
/-! Kj74: calls that may raise whose result may be the caller's own data; new lists of lists of lists from two new lists of lists; an insertion into a row of such; own lists of things of any kind from a display. -/
namespace Kj
open PySem L2
def spXR (S : SpecX) : Sp := fun vs H Q E => ∃ As O Hr, S As O ∧ Same Hr H ∧ AllP As vs Hr ∧ match O with
  | .ret R => ∀ v H' Hr', Ext H Hr H' Hr' → R.p v Hr' → Q v H'
  | .exc X => ∀ cls d H', Same H H' → X cls d H' → E cls d H'
section
variable {P : Program} {w : World} {K : PySem.W.Frag} {mg : Str → Option Value} {base : Heap}
theorem same_mns {H Hr H' : Hp} (hs : Same Hr H) (s1 : Same (mns H Hr) H') (s2 : Same Hr H') : Same H H' := fun a o q => by
  cases z : Hr a with
  | some u => have := hs _ _ z; rw [q] at this; cases this; exact s2 _ _ z
  | none => exact s1 _ _ (mns_some.mpr ⟨z, q⟩)
end
section
variable {W : WX} {H0 : Hp} {ρ ρ' : List Slot} {K : PySem.W.Frag} {f fa : Bool} {te t' ta tb tc td : TE} {X : XA} {α β γ δ ε : Type} {A : α → Abs} {B : β → Abs} {D : δ → Abs} {E' : ε → Abs} {R : γ → Abs} {C : Addr} {O : α → List (Str × Abs)} {m : Str}
end
section
variable {Gw : WK} {H0 : Hp} {ρ ρ' : List Slot} {K : PySem.W.Frag} {f fa fb fc fd : Bool} {ta tb tc td te : TE} {α β γ δ S S1 R : Type} {A : R → Abs} {B : S → List Slot} {t u w : TS} {Ax : α → Abs}
end
end Kj

set_option Elab.async false
set_option linter.all false
set_option maxRecDepth 100000
set_option maxHeartbeats 4000000
/-! Kj75: except clauses of which some name what they take. -/
namespace Kj
open PySem L2 PySem.HandSPX
abbrev HdL := List (Value × Option Nat × (Addr → Value → Option Addr → TS))
inductive HdsN (X : Cx) : List ExceptHandler → HdL → Prop
  | nil : HdsN X [] []
  | cons {x : Str} {c : Value} {ts : Addr → Value → Option Addr → TS} {b₀ : Stmt} {suite : List Stmt} {np pos' : Pos} {hds : List ExceptHandler} {l : HdL} (hc : Names X x c)
    (hsu : ∀ (a : Addr) (oe : Obj) (cls : Value) (d : Option Addr) (pn : List (Addr × Obj)), Zc cls d oe → (∃ vs, oe.data = .fields vs) → PSs (X.suite a ((a, oe) :: pn)) (b₀ :: suite) (ts a cls d)) (h : HdsN X hds l) :
    HdsN X (.ExceptHandler (some (.Name x np)) none (b₀ :: suite) pos' :: hds) ((c, none, ts) :: l)
  | as {x n : Str} {i : Nat} {c : Value} {ts : Addr → Value → Option Addr → TS} {b₀ : Stmt} {suite : List Stmt} {np pos' : Pos} {hds : List ExceptHandler} {l : HdL} (hN : X.N.Nodup) (hi : X.N[i]? = some n) (hln : X.env.kindOf n = some .local) (hc : Names X x c)
    (hsu : ∀ (a : Addr) (oe : Obj) (cls : Value) (d : Option Addr) (pn : List (Addr × Obj)), Zc cls d oe → (∃ vs, oe.data = .fields vs) → PSs (X.suite a ((a, oe) :: pn)) (b₀ :: suite) (ts a cls d)) (h : HdsN X hds l) :
    HdsN X (.ExceptHandler (some (.Name x np)) (some n) (b₀ :: suite) pos' :: hds) ((c, some i, ts) :: l)
def outN (i : Nat) (D : Ends) : Ends := { nx := fun σ H => D.nx (List.set σ i none) H, rt := D.rt, bk := fun σ H => D.bk (List.set σ i none) H, ct := fun σ H => D.ct (List.set σ i none) H }
def wMN (K : PySem.W.Frag) (Wout : WX) (D : Ends) : HdL → WX
  | [] => Wout
  | (c, none, ts) :: r => fun cls d σ H => ∃ b, PySem.W.exmOne K cls c = some b ∧ (b = true → ∀ a, H a = none → ts a cls d D σ H) ∧ (b = false → wMN K Wout D r cls d σ H)
  | (c, some i, ts) :: r => fun cls d σ H => ∃ b, PySem.W.exmOne K cls c = some b ∧ (b = true → ∀ a, H a = none → ts a cls d (outN i D) (List.set σ i (some (.ref a))) H) ∧ (b = false → wMN K Wout D r cls d σ H)
section
variable {X : Cx} {pins : List (Addr × Obj)} {σ : St} {H : Hp} {sI : Shared} {B : Heap} {a : Addr} {cls : Value} {d : Option Addr} {Wout : WX} {D : Ends}
theorem off_frames {h : Heap} {l : List Env} {Z : Obj → Prop} (fl : FlyingZ B l a Z h) : a ∉ frs l := fun hm => by
  obtain ⟨oe, vs, he, _, hd⟩ := fl.there
  obtain ⟨_, o, e, n⟩ := fl.2.2.1.mem hm
  rw [he] at e
  cases e
  exact n vs hd
/-- one that flies comes to the clauses -/
theorem handle_ok (hs : X.stack = X.env :: X.outer) (hf : X.env.frame = some X.env.locals) (tk : Takes X Wout) (J : L2.Inv X pins σ H sI) (nb : ∀ (b : Addr) (o : Obj), sI.heap.get? b = some o → ¬b ∈ frs X.stack → B.get? b = some o) (na : H a = none)
    {hds : List ExceptHandler} {l : HdL} (hh : HdsN X hds l) : ∀ (s : Shared), sI.heap.UpToSlots s.heap → FlyingZ B (X.env :: X.outer) a (Zc cls d) s.heap → s.os = sI.os → PyProof.Rows.AllBare s.gens → wMN X.K Wout D l cls d σ H →
    wpAny (model X.prog X.w) X.A (handleBy (.ref a) X.env hds) (SP X pins D) X.xe s := by
  have ok := J.ok
  have inS : ∀ (s : Shared), sI.heap.UpToSlots s.heap → FlyingZ B (X.env :: X.outer) a (Zc cls d) s.heap → s.os = sI.os → PyProof.Rows.AllBare s.gens → ∃ oe vs, s.heap.get? a = some oe ∧ Zc cls d oe ∧ oe.data = .fields vs ∧ L2.Inv X pins σ H s ∧ L2.Inv (X.suite a ((a, oe) :: (X.pn ++ pins))) [] σ H s := fun s up fl os ag => by
    have J3 := J.landed nb fl.1 up os ag
    obtain ⟨oe, vs, he, hz, hd⟩ := fl.there
    have nf := off_frames fl
    refine ⟨oe, vs, he, hz, hd, J3, J3.suite he hd na (fun z => nf (List.mem_filterMap.mpr ⟨X.env, List.mem_cons_self, by rw [hf, z]⟩)) fun hm => nf ?_⟩
    obtain ⟨e, h1, h2⟩ := List.mem_filterMap.mp hm
    exact List.mem_filterMap.mpr ⟨e, List.mem_cons_of_mem _ h1, h2⟩
  have test : ∀ (s : Shared) {x : Str} {c : Value} {np : Pos} {b : Bool} {Q : Bool → Shared → Prop} {E E' : Value → Shared → Prop}, Names X x c → PySem.W.exmOne X.K cls c = some b → sI.heap.UpToSlots s.heap → FlyingZ B (X.env :: X.outer) a (Zc cls d) s.heap → s.os = sI.os → PyProof.Rows.AllBare s.gens → Q b s →
      wpAny (model X.prog X.w) (X.A.mark (some (.ref a))) (eval (.Name x np) X.env) (fun c' s₁ => wpAny (model X.prog X.w) (X.A.mark (some (.ref a))) (excMatches (.ref a) c') Q E s₁) E' s := by
    intro s x c np b Q E E' hc hb1 up fl os ag q
    obtain ⟨oe, vs, he, hz, hd, J3, S3⟩ := inS s up fl os ag
    have LT : PySem.W.Looks (model X.prog X.w) s.heap (typeOf (.ref a)) cls := fun A Q E s2 k q => wpAny_typeOf_ref (k a oe he) (by rw [hz.1]; exact q)
    have LM := PySem.W.exm_one (M := model X.prog X.w) J3.kIn LT hb1
    have q2 := PySem.W.Looks.here (A := X.A.mark (some (.ref a))) (E := E) LM q
    obtain ⟨hg, hdb, hm | ⟨hm, hv, hn⟩⟩ := hc
    · exact ld_glob (X := X.suite a ((a, oe) :: (X.pn ++ pins))) S3 hg hm q2 hdb
    · exact ld_blt (X := X.suite a ((a, oe) :: (X.pn ++ pins))) S3 hg hm hv q2 hn hdb
  induction hh with
  | nil =>
    intro s up fl os ag w
    have w : Wout cls d σ H := w
    refine wpAny_handleBy_nil ?_
    obtain ⟨oe, vs, T, oT, ts, he, hz, hd, h1, h2, h3, h4, h5, h6⟩ := fl.2.2.2
    unfold passOn
    refine wpAny_bind (wpAny_field he hd h1 ?_)
    rw [if_neg (by simp)]
    refine wpAny_bind ?_
    rw [hf]
    refine setFlight_upZ fl fun h' hh' up' => wpAny_throw (tk _ _ ⟨a, B, sI, pins, σ, H, cls, d, rfl, J, nb, up.trans up', .inr (.inr ?_), na, os, ag, w⟩)
    rw [hs]; exact hh'
  | cons hc hsu h ih =>
    rename_i x c ts b₀ suite np pos' hds l
    intro s up fl os ag w
    obtain ⟨b, hb1, hyes, hno⟩ := w
    refine wpAny_handleBy_cons (codeAny_handlers_test (test s hc hb1 up fl os ag ?_)) (fun z => by cases z)
    cases b with
    | false => exact ih s up fl os ag (hno rfl)
    | true =>
      refine codeAny_handlers_suite (lands_againZ fl fun h' fl' up' => ?_)
      obtain ⟨oe, vs, he, hz, hd, J4, S4⟩ := inS ⟨h', s.gens, s.drawn, s.toks, s.os⟩ (up.trans up') fl' os ag
      refine wpAny_mono ((hsu a oe cls d _ hz ⟨vs, hd⟩).run [] _ σ H D S4 (hyes rfl a na)) (fun f s6 sp => ?_) (fun _ _ z => z.elim)
      cases f with
      | next => obtain ⟨σ6, H6, S6, q6⟩ := sp; exact ⟨σ6, H6, S6.unsuite ok, q6⟩
      | brk => obtain ⟨σ6, H6, S6, q6⟩ := sp; exact ⟨σ6, H6, S6.unsuite ok, q6⟩
      | cont => obtain ⟨σ6, H6, S6, q6⟩ := sp; exact ⟨σ6, H6, S6.unsuite ok, q6⟩
      | ret u => obtain ⟨v, σ6, H6, S6, r6, q6⟩ := sp; exact ⟨v, σ6, H6, S6.unsuite ok, r6, q6⟩
  | as hN hi hln hc hsu h ih =>
    rename_i x n i c ts b₀ suite np pos' hds l
    intro s up fl os ag w
    obtain ⟨b, hb1, hyes, hno⟩ := w
    refine wpAny_handleBy_cons (codeAny_handlers_test (test s hc hb1 up fl os ag ?_)) (fun z => by cases z)
    cases b with
    | false => exact ih s up fl os ag (hno rfl)
    | true =>
      refine codeAny_handlers_suite_as (lands_againZ fl fun h' fl' up' => ?_)
      obtain ⟨oe, vs, he, hz, hd, J4, S4⟩ := inS ⟨h', s.gens, s.drawn, s.toks, s.os⟩ (up.trans up') fl' os ag
      refine store_ok (X := X.suite a ((a, oe) :: (X.pn ++ pins))) (v := .ref a) S4 hN hi (.inl hln) rfl (fun s5 S5 => ?_) (.inr hln)
      refine wpAny_mono ((hsu a oe cls d _ hz ⟨vs, hd⟩).run [] _ _ H (outN i D) S5 (hyes rfl a na)) (fun f s6 sp => ?_) (fun _ _ z => z.elim)
      have fin : ∀ {σ6 : St} {H6 : Hp} {Q : Unit → Shared → Prop}, L2.Inv (X.suite a ((a, oe) :: (X.pn ++ pins))) [] σ6 H6 s6 → (∀ s', L2.Inv X pins (List.set σ6 i none) H6 s' → Q () s') → wpAny (model X.prog X.w) X.A (do bindName X.env n Value.none; unbindBehindTheSuite X.env n pos') Q X.xe s6 := fun S6 q => gone_ok (S6.unsuite ok) hN hi hln q
      cases f with
      | next => obtain ⟨σ6, H6, S6, q6⟩ := sp; exact fin S6 fun s' S' => ⟨_, H6, S', q6⟩
      | brk => obtain ⟨σ6, H6, S6, q6⟩ := sp; exact fin S6 fun s' S' => ⟨_, H6, S', q6⟩
      | cont => obtain ⟨σ6, H6, S6, q6⟩ := sp; exact fin S6 fun s' S' => ⟨_, H6, S', q6⟩
      | ret u => obtain ⟨v, σ6, H6, S6, r6, q6⟩ := sp; exact fin S6 fun s' S' => ⟨v, _, H6, S', r6, q6⟩
end
theorem ps_tryN {X : Cx} {body : List Stmt} {h₀ : ExceptHandler} {hds : List ExceptHandler} {l : HdL} {pos : Pos} {tb : WX → TS} {Wout : WX} (hs : X.stack = X.env :: X.outer) (hf : X.env.frame = some X.env.locals) (tk : Takes X Wout)
    (hb : ∀ (W : WX) (pn : List (Addr × Obj)) (xe : Value → Shared → Prop), Takes (X.tr pn xe) W → PassesOwn (model X.prog X.w) X.A X.env xe → PSs (X.tr pn xe) body (tb W)) (hh : HdsN X (h₀ :: hds) l) :
    PS X (.Try body (h₀ :: hds) [] [] pos) (fun D σ H => tb (wMN X.K Wout D l) D σ H) := ⟨fun pins s σ H D I h => by
  have ok := I.ok
  have hfr : X.A.frames = some (X.env :: X.outer) := by rw [ok.frames, hs]
  refine wpAny_Try_except (wpAny_mono ((hb (wMN X.K Wout D l) (X.pn ++ pins) _ (fun u s' xx => ?_) PassesOwn.looking).run [] s σ H D (I.toTry _) h) (fun f s' sp => ?_) fun e s' q => q)
  · obtain ⟨a, B, sI, pins', σ', H', cls, d, rfl, J', nb, up, sky, na, os, ag, w⟩ := xx
    have J := J'.ofTry ok
    have sky : Sky B (X.env :: X.outer) a (Zc cls d) X.env.locals s'.heap := by rw [← hs]; exact sky
    exact sky.land Zc.steady hfr hf fun h3 fl up3 => handle_ok hs hf tk J nb na hh _ (up.trans up3) fl os ag w
  · cases f with
    | next => obtain ⟨σ6, H6, S6, q6⟩ := sp; exact wpAny_execs_nil ⟨σ6, H6, S6.ofTry ok, q6⟩
    | brk => obtain ⟨σ6, H6, S6, q6⟩ := sp; exact ⟨σ6, H6, S6.ofTry ok, q6⟩
    | cont => obtain ⟨σ6, H6, S6, q6⟩ := sp; exact ⟨σ6, H6, S6.ofTry ok, q6⟩
    | ret u => obtain ⟨v, σ6, H6, S6, r6, q6⟩ := sp; exact ⟨v, σ6, H6, S6.ofTry ok, r6, q6⟩⟩
end Kj

set_option Elab.async false
set_option linter.all false
set_option maxRecDepth 100000
set_option maxHeartbeats 4000000
/-! Kj76: exceptions of classes with an __init__ of their own, that hold numbers. -/
namespace Kj
open PySem L2
/-- what the written part says of such a class -/
def oexB (K : PySem.W.Frag) (C : Addr) (fs : List Str) : Bool :=
  (match List.lookup C K with
  | some { cls := Value.type "type", dict := _, data := Data.cls cd, slots := sl } =>
    match cd.mro, sl.toList with
    | Value.ref C' :: bm, [_, _, _, _, some (Value.builtin n), _] => C' == C && n == "ValueError.__new__" && cd.hasDict && !cd.hasDel && PySem.HandSPX.refsVE bm
    | _, _ => false
  | _ => false) &&
  (decide (PySem.W.findIn K (.ref C) "__setattr__" = some (some (.builtin "object.__setattr__"))) &&
  (decide (PySem.W.typeIn K (.ref C) = some (.type "type")) && (PySem.W.keepIn K (.ref C) && (xfB K C &&
  (decide (PySem.W.findIn K (.ref C) "__init__" = some (some (.ref (He.ma K C "__init__")))) &&
  (decide (PySem.W.typeIn K (.ref (He.ma K C "__init__")) = some (.type "function")) && fs.all fun f => decide (PySem.W.findIn K (.ref C) f = some none)))))))
structure ExF (K : PySem.W.Frag) (C : Addr) (fs : List Str) : Prop where
  o : OexC K C
  x : XfC K C
  i : PySem.W.findIn K (.ref C) "__init__" = some (some (.ref (He.ma K C "__init__")))
  t : PySem.W.typeIn K (.ref (He.ma K C "__init__")) = some (.type "function")
  n : ∀ f ∈ fs, PySem.W.findIn K (.ref C) f = some none
theorem oexB_ok {K : PySem.W.Frag} {C : Addr} {fs : List Str} (h : oexB K C fs = true) : ExF K C fs := by
  unfold oexB at h
  simp only [Bool.and_eq_true] at h
  obtain ⟨h1, h2, h3, h4, h5, h6, h7, h8⟩ := h
  have x := xfB_ok h5
  refine ⟨⟨?_, of_decide_eq_true h2, x.exC, of_decide_eq_true h3, h4⟩, x, of_decide_eq_true h6, of_decide_eq_true h7, fun f hf => of_decide_eq_true (List.all_eq_true.mp h8 f hf)⟩
  split at h1
  · rename_i dict cd sl e
    split at h1
    · rename_i C' bm k0 k1 k2 k3 n k5 e1 e2
      simp only [Bool.and_eq_true, beq_iff_eq, Bool.not_eq_true'] at h1
      obtain ⟨⟨⟨⟨rfl, rfl⟩, hd⟩, hdel⟩, hr⟩ := h1
      refine ⟨cd.name, cd.qualname, cd.ns, cd.bases, bm, cd.slotNames, cd.subclasses, cd.abstract, cd.collection, dict, k0, k1, k2, k3, k5, ?_, hr⟩
      rw [e]
      obtain ⟨nm, bs, mro, ns, qn, hdct, sn, sub, ab, col, del⟩ := cd
      cases e1
      cases hd
      cases hdel
      obtain ⟨l⟩ := sl
      cases e2
      rfl
    · cases h1
  · cases h1
def XkAt (P : Program) (w : World) (K : PySem.W.Frag) (mg : Str → Option Value) (base : Heap) (x : Str) (C : Addr) (k : Nat) (ps : List Str) (sp : Sp) : Prop :=
  ∃ f fd, mg x = some (.ref C) ∧ OexC K C ∧ PySem.W.findIn K (.ref C) "__init__" = some (some (.ref f)) ∧ PySem.W.typeIn K (.ref f) = some (.type "function") ∧ Binds K fd ps [] ∧ FnOk P w K mg base CX0 k f fd ps sp
theorem xkAt {P : Program} {w : World} {K : PySem.W.Frag} {mg : Str → Option Value} {base : Heap} {x qual name : Str} {C : Addr} {st : Stmt} {fd : FuncData} {k : Nat} {ps : List Str} {sp : Sp} {fs : List Str} (F : FnP K x qual st (He.ma K C "__init__") fd) (hg : mg name = some (.ref C)) (X : ExF K C fs) (G : FnOk P w K mg base CX0 k (He.ma K C "__init__") fd ps sp)
    (h : ∀ (kV doc pm : Value) (an : Option Addr) (cdv ct : Value) (us : List Value), us.length = ps.length → bindArgs (PySem.W.fnOf x qual (defArgs st) (defBody st) (defScope st) .none kV doc pm an cdv ct) ⟨us, []⟩ = pure (ps.zip us)) : XkAt P w K mg base name C k ps sp :=
  ⟨_, fd, hg, X.o, X.i, X.t, F.bindsN h, G⟩
def tRaiseF (C : Addr) (sp : Sp) (ta : TA) (W : WX) : TS := fun _ σ H => tMkO C sp [] ta σ H fun cls d H' => W cls d σ H'
theorem ps_raiseF {X : Cx} {W : WX} {C : Addr} {k : Nat} {ps : List Str} {sp : Sp} {x : Str} {p pos pos2 : Pos} {e : Expr} {es : List Expr} {t : TA} (D : XkAt X.prog X.w X.K X.mg X.base x C k ps sp) (hr : Room (k + 1) X.A) (hc : X.calm = true) (tk : Takes X W) (hg : Gl X x)
    (ha : PA X (e :: es) t) (hdb : (x == ("__debug__" : Str)) = false := by decide) (he : starEach (e :: es) X.env = (false, eval e X.env) :: starEach es X.env := by rfl) (hpl : (backTo pos (starEach es X.env)).any (·.1) = false := by rfl) :
    PS X (.Raise (some (.Call (.Name x p) (e :: es) [] pos)) none pos2) (tRaiseF C sp t W) := by
  obtain ⟨f, fd, h1, h2, h3, h4, h5, h6⟩ := D
  exact ps_raise (t := fun σ H Q => tMkO C sp [] t σ H Q) hc tk (pmk_oex h2 h3 h4 h6 hr h5 .nil pass0 hg h1 ha hdb he hpl)
def spE1 (C : Addr) (f : Str) : Sp := fun vs H Q _ => ∃ a y, vs = [.ref a, y] ∧ H a = some (exo a C none) ∧ ∀ dx, H dx = none → dx ≠ a → Q .non (upd (upd H dx (exd dx [(f, y)])) a (exo a C (some dx)))
def spE2 (C : Addr) (f g : Str) : Sp := fun vs H Q _ => ∃ a y z, vs = [.ref a, y, z] ∧ H a = some (exo a C none) ∧ ∀ dx, H dx = none → dx ≠ a → Q .non (upd (upd (upd H dx (exd dx [(f, y)])) a (exo a C (some dx))) dx (exd dx [(g, z), (f, y)]))
section
variable {P : Program} {w : World} {K : PySem.W.Frag} {mg : Str → Option Value} {base : Heap}
theorem fnE1_ok {x qual : Str} {st : Stmt} {f C : Addr} {fd : FuncData} {N : List Str} {p0 p1 fl : Str} {k : Nat} {fs : List Str} (F : FnP K x qual st f fd) (Sc : FnScope N [p0, p1] (defScope st)) (X : ExF K C fs) (hf : fl ∈ fs)
    (body : ∀ (cdv : Value) (A : Around) (outer : List Env) (s : Shared) (H : Hp) (E : XK), PSs (cxOf CX0 P w K mg base N qual (defScope st) f cdv A outer s H E).nox (defBody st) (tSeq (tOst K fl (tVar 0) (tVar 1)) tNext)) : FnOk P w K mg base CX0 (k + 1) f fd [p0, p1] (spE1 C fl) := by
  refine F.ok Sc (fun vs H Q E h => ?_) (fun cdv A outer s H vs Q E hr h => ?_)
  · obtain ⟨a, y, rfl, _⟩ := h; rfl
  · obtain ⟨a, y, rfl, h1, h2⟩ := h
    exact ⟨_, (body cdv A outer s H E).nox, y, rfl, .ref a, rfl, a, C, rfl, X.o, X.n fl hf, .inl ⟨h1, h2⟩⟩
theorem fnE2_ok {x qual : Str} {st : Stmt} {f C : Addr} {fd : FuncData} {N : List Str} {p0 p1 p2 fl gl : Str} {k : Nat} {fs : List Str} (F : FnP K x qual st f fd) (Sc : FnScope N [p0, p1, p2] (defScope st)) (X : ExF K C fs) (hf : fl ∈ fs) (hg : gl ∈ fs)
    (body : ∀ (cdv : Value) (A : Around) (outer : List Env) (s : Shared) (H : Hp) (E : XK), PSs (cxOf CX0 P w K mg base N qual (defScope st) f cdv A outer s H E).nox (defBody st) (tSeq (tOst K fl (tVar 0) (tVar 1)) (tSeq (tOst K gl (tVar 0) (tVar 2)) tNext))) : FnOk P w K mg base CX0 (k + 1) f fd [p0, p1, p2] (spE2 C fl gl) := by
  refine F.ok Sc (fun vs H Q E h => ?_) (fun cdv A outer s H vs Q E hr h => ?_)
  · obtain ⟨a, y, z, rfl, _⟩ := h; rfl
  · obtain ⟨a, y, z, rfl, h1, h2⟩ := h
    exact ⟨_, (body cdv A outer s H E).nox, y, rfl, .ref a, rfl, a, C, rfl, X.o, X.n fl hf, .inl ⟨h1, fun dx q1 q2 => ⟨z, rfl, .ref a, rfl, a, C, rfl, X.o, X.n gl hg, .inr ⟨dx, _, upd_same, by rw [upd_ne q2, upd_same], by show 1 ≤ 900; omega, h2 dx q1 q2⟩⟩⟩⟩
end
section
variable {G : WK} {H0 : Hp} {ρ ρ' : List Slot} {f fa fb : Bool} {α S S1 R : Type} {A : R → Abs} {B : S → List Slot} {t u w : TS} {ta tb te : TE} {Ax : α → Abs} {B1 : S1 → List Slot}
theorem ext_raise {H1 Hr1 : Hp} {a dx : Addr} {o : HO} {H2 : Hp} (s : Same Hr1 H1) (na : H1 a = none) (nd : H1 dx = none) (h : ∀ c, c ≠ a → c ≠ dx → H2 c = H1 c) : Ext H1 Hr1 (upd (del H2 a) dx o) Hr1 := by
  have k : Same H1 (upd (del H2 a) dx o) := fun c u q => by
    have c1 : c ≠ a := fun z => by rw [z, na] at q; cases q
    have c2 : c ≠ dx := fun z => by rw [z, nd] at q; cases q
    rw [upd_ne c2]
    unfold del
    rw [if_neg c1, h c c1 c2]
    exact q
  exact ⟨k, Same.refl _, s.trans k, fun c u q q' => by rw [q] at q'; cases q'⟩
theorem db_raiseF1 {x fl : Str} {m : Option Int} (h : DM H0 ρ ta fa (aE G.K) m) : DB G H0 ρ (tSeq (tRaiseF (He.ga G.K x) (spE1 (He.ga G.K x) fl) (tCons ta tNil) G.W) u) A (b1 (fun i => some (.ex ⟨x, [(fl, i)]⟩)) m : Option (Fl S R)) B := fun fl' e => by
  obtain ⟨i, h1, h2⟩ := b1_some e
  cases h2
  intro σ H Hr D E kn kr kx
  refine h i h1 σ H Hr _ E fun v H1 Hr1 x1 a1 => ⟨by show 1 ≤ 1000; omega, fun a na => ⟨a, v, rfl, upd_same, fun dx nd ne => ⟨rfl, dx, [(fl, v)], upd_same, ?_, ?_, ?_⟩⟩⟩
  · rw [upd_ne ne, upd_same]
  · rw [upd_ne ne] at nd; exact nd
  · rw [upd_ne ne] at nd
    cases a1
    refine kx ρ σ _ Hr1 _ _ ⟨rfl, dx, rfl, upd_same⟩ ((E.ext x1).ext (ext_raise (E.ext x1).sub na nd fun c c1 c2 => ?_)) x1.r
    rw [upd_ne c1, upd_ne c2, upd_ne c1]
theorem db_raiseF2 {x fl gl : Str} {m n : Option Int} (h : DM H0 ρ ta fa (aE G.K) m) (h' : DM H0 ρ tb fb (aE G.K) n) : DB G H0 ρ (tSeq (tRaiseF (He.ga G.K x) (spE2 (He.ga G.K x) fl gl) (tCons ta (tCons tb tNil)) G.W) u) A (b2 (fun i j => some (.ex ⟨x, [(gl, j), (fl, i)]⟩)) m n : Option (Fl S R)) B := fun fl' e => by
  obtain ⟨i, j, h1, h2, h3⟩ := b2_some e
  cases h3
  intro σ H Hr D E kn kr kx
  refine h i h1 σ H Hr _ E fun v H1 Hr1 x1 a1 => h' j h2 σ H1 Hr1 _ (E.ext x1) fun y H2 Hr2 x2 a2 => ⟨by show 2 ≤ 1000; omega, fun a na => ⟨a, v, y, rfl, upd_same, fun dx nd ne => ⟨rfl, dx, [(gl, y), (fl, v)], ?_, upd_same, ?_, ?_⟩⟩⟩
  · rw [upd_ne (Ne.symm ne), upd_same]
  · rw [upd_ne ne] at nd; exact nd
  · rw [upd_ne ne] at nd
    cases a1
    cases a2
    have E2 := (E.ext x1).ext x2
    refine kx ρ σ _ Hr2 _ _ ⟨rfl, dx, rfl, upd_same⟩ (E2.ext (ext_raise E2.sub na nd fun c c1 c2 => ?_)) (x1.r.trans x2.r)
    rw [upd_ne c2, upd_ne c1, upd_ne c2, upd_ne c1]
/-! ### clauses with names -/
def noOR (ρ : List Slot) : Bool := ρ.all fun s => match s with | .reg _ => false | .own _ => false | _ => true
theorem noOR_reg (h : noOR ρ = true) (i : Nat) (A : Abs) : ρ[i]? ≠ some (.reg A) := fun e => by
  have := List.all_eq_true.mp h _ (List.mem_of_getElem? e)
  cases this
theorem noOR_own (h : noOR ρ = true) (i : Nat) (A : AbsO) : ρ[i]? ≠ some (.own A) := fun e => by
  have := List.all_eq_true.mp h _ (List.mem_of_getElem? e)
  cases this
/-- an exception in hand, its numbers -/
def aXc (a p : Addr) (fs : List (Str × Int)) : Abs := ⟨fun v H => v = .ref a ∧ H p = some (.xd (fs.map fun q => (q.1, .int q.2))), fun _ _ _ s z => ⟨z.1, s _ _ z.2⟩⟩
theorem env_hold {σ : St} {H Hr : Hp} {i : Nat} {a p : Addr} {fs : List (Str × Int)} (E : EnvOk H0 σ ρ H Hr) (no : noOR ρ = true) (hi : i < ρ.length) (hp : H p = some (.xd (fs.map fun q => (q.1, .int q.2)))) : ∃ Hr', Same Hr Hr' ∧ EnvOk H0 (List.set σ i (some (.ref a))) (ρ.set i (.dat (aXc a p fs))) H Hr' := by
  let Hr' : Hp := fun c => if c = p then some (.xd (fs.map fun q => (q.1, .int q.2))) else Hr c
  have up : Same Hr Hr' := fun c o q => by
    show (if c = p then _ else _) = _
    by_cases z : c = p
    · rw [if_pos z]; subst z; rw [← hp]; exact E.sub _ _ q
    · rw [if_neg z]; exact q
  have E1 : EnvOk H0 σ ρ H Hr' := by
    refine ⟨E.base, fun c o q => ?_, E.len, fun j s hs => ?_, fun j k q B B' _ hj _ _ _ => absurd hj (noOR_own no j B), .nil (noOR_reg no)⟩
    · have q : (if c = p then some (.xd (fs.map fun q => (q.1, .int q.2))) else Hr c) = some o := q
      by_cases z : c = p
      · rw [if_pos z] at q; rw [z, hp]; exact q
      · rw [if_neg z] at q; exact E.sub _ _ q
    · have := E.slot j s hs
      cases s with
      | no => trivial
      | dat A => obtain ⟨v, g1, g2⟩ := this; exact ⟨v, g1, A.mono _ _ _ up g2⟩
      | new A => obtain ⟨v, g1, g2⟩ := this; exact ⟨v, g1, A.mono _ _ _ (mns_mono H0 up) g2⟩
      | own B => exact absurd hs (noOR_own no j B)
      | reg A => trivial
  exact ⟨Hr', up, E1.set (f := false) (A := aXc a p fs) hi ⟨rfl, if_pos rfl⟩⟩
theorem env_gone {σ : St} {H Hr : Hp} {i : Nat} (E : EnvOk H0 σ ρ H Hr) (no : noOR ρ = true) (hi : ρ[i]? = some .no) : EnvOk H0 (List.set σ i none) ρ H Hr := by
  refine ⟨E.base, E.sub, by rw [List.length_set]; exact E.len, fun j s hs => ?_, fun j k q B B' _ hj _ _ _ => absurd hj (noOR_own no j B), .nil (noOR_reg no)⟩
  by_cases z : j = i
  · subst z
    rw [hi] at hs
    cases hs
    trivial
  · have := E.slot j s hs
    have e : (List.set σ i none)[j]? = σ[j]? := List.getElem?_set_ne (Ne.symm z)
    cases s with
    | no => trivial
    | dat A => obtain ⟨v, g1, g2⟩ := this; exact ⟨v, e.trans g1, g2⟩
    | new A => obtain ⟨v, g1, g2⟩ := this; exact ⟨v, e.trans g1, g2⟩
    | own B => exact absurd hs (noOR_own no j B)
    | reg A => trivial
/-- e.f -/
theorem dm_xf {i : Nat} {a p C : Addr} {cls : Value} {d : Option Addr} {fs : List (Str × Int)} {fl : Str} {n : Int} {K : PySem.W.Frag} (hi : ρ[i]? = some (.dat (aXc a p fs))) (hc : cls = .ref C) (hd : d = some p) (hf : fs.lookup fl = some n) : DM H0 ρ (tXf a cls d C fl (tVar i)) true (aE K) (some n) := fun x e σ H Hr Q E k => by
  cases e
  obtain ⟨v, e1, rfl, e2⟩ := E.slot i _ hi
  have lk : ∀ {l : List (Str × Int)}, l.lookup fl = some n → (l.map fun q => (q.1, V.int q.2)).lookup fl = some (.int n) := by
    intro l
    induction l with
    | nil => intro h; cases h
    | cons q l ih =>
      intro h
      rw [List.map_cons]
      rw [List.lookup_cons] at h ⊢
      cases z : (fl == q.1) with
      | true => rw [z] at h; simp only [z] at h ⊢; cases h; rfl
      | false => rw [z] at h; simp only [z] at h ⊢; exact ih h
  exact ⟨_, e1, rfl, hc, p, _, .int n, hd, E.sub _ _ e2, lk hf, k _ H Hr (Ext.refl E.sub) (.int _)⟩
def hndN {S R : Type} : List (Str × (Exn → Option (Fl S R))) → Exn → Option (Fl S R)
  | [], _ => none
  | (c, p) :: hs, e => if exHit e.name c = true then p e else hndN hs e
def tryN {α S R : Type} (l : List Str) (hs : List (Str × (Exn → Option (Fl S R)))) (ok : α → Option (Fl S R)) (m : Option (Rs α)) : Option (Fl S R) := m.bind fun r => match r with | .ok x => ok x | .ex e => if l.contains e.name = true then hndN hs e else none
inductive HLN (G : WK) (H0 : Hp) (ρ : List Slot) (lc : List Str) {S1 R : Type} (A : R → Abs) (B1 : S1 → List Slot) : HdL → List (Str × (Exn → Option (Fl S1 R))) → Prop
  | nil : HLN G H0 ρ lc A B1 [] []
  | cons {c : Str} {tb : TS} {p : Option (Fl S1 R)} {l : HdL} {hs : List (Str × (Exn → Option (Fl S1 R)))} : lc.contains c = true → DB G H0 ρ tb A p B1 → HLN G H0 ρ lc A B1 l hs → HLN G H0 ρ lc A B1 ((.ref (He.ga G.K c), none, fun _ _ _ => tb) :: l) ((c, fun _ => p) :: hs)
  | as {c : Str} {i : Nat} {ts : Addr → Value → Option Addr → TS} {p : Exn → Option (Fl S1 R)} {l : HdL} {hs : List (Str × (Exn → Option (Fl S1 R)))} : lc.contains c = true → c ≠ "SnatchError" → i < ρ.length → (∀ s, (B1 s)[i]? = some .no ∧ noOR (B1 s) = true) →
    (∀ (e : Exn) (a pd : Addr) (cls : Value) (d : Option Addr), cls = .ref (He.ga G.K c) → d = some pd → DB G H0 (ρ.set i (.dat (aXc a pd e.flds))) (ts a cls d) A (p e) B1) → (∀ e fl, p e = some fl → e.flds ≠ []) → HLN G H0 ρ lc A B1 l hs → HLN G H0 ρ lc A B1 ((.ref (He.ga G.K c), some i, ts) :: l) ((c, p) :: hs)
def tTryN (K : PySem.W.Frag) (Wout : WX) (l : HdL) (tb : WX → TS) : TS := fun D σ H => tb (wMN K Wout D l) D σ H
theorem hln_run {lx lc : List Str} (hx : exmB G.K lx lc = true) (no : noOR ρ = true) {e : Exn} (he : lx.contains e.name = true) {fl : Fl S1 R} {d : Option Addr} {σ : St} {H Hr : Hp} {D : Ends} (E : EnvOk H0 σ ρ H Hr) (z : xP G.K e (.ref (He.ga G.K e.name)) d H)
    (kn : ∀ ρ' σ' H' Hr', (∃ s, fl = .nx s ∧ ρ' = B1 s) → EnvOk H0 σ' ρ' H' Hr' → Same Hr Hr' → D.nx σ' H') (kr : KR H0 (flR A fl) D.rt Hr) (kx : KX H0 (wz G fl) Hr) :
    ∀ {l : HdL} {hs : List (Str × (Exn → Option (Fl S1 R)))}, HLN G H0 ρ lc A B1 l hs → hndN hs e = some fl → wMN G.K G.W D l (.ref (He.ga G.K e.name)) d σ H
  | _, _, .nil, h => by cases h
  | _, _, .cons (c := c) hc hp hl, h => by
    have q := exmB_ok hx he hc
    cases y : exHit e.name c with
    | true =>
      rw [y] at q
      have h' : (if exHit e.name c = true then _ else _) = some fl := h
      rw [y, if_pos rfl] at h'
      exact ⟨true, q, fun _ a _ => hp fl h' σ H Hr D E kn kr kx, fun z => by cases z⟩
    | false =>
      rw [y] at q
      have h' : (if exHit e.name c = true then _ else _) = some fl := h
      rw [y, if_neg Bool.false_ne_true] at h'
      exact ⟨false, q, (fun z => by cases z), fun _ => hln_run hx no he E z kn kr kx hl h'⟩
  | _, _, .as (c := c) (i := i) (p := p) hc nc hi hB hp hne hl, h => by
    have q := exmB_ok hx he hc
    cases y : exHit e.name c with
    | true =>
      rw [y] at q
      have h' : (if exHit e.name c = true then _ else _) = some fl := h
      rw [y, if_pos rfl] at h'
      have ec : e.name = c := by
        unfold exHit at y
        rw [decide_eq_false nc, Bool.or_false] at y
        exact of_decide_eq_true y
      refine ⟨true, q, fun _ a na => ?_, fun z => by cases z⟩
      obtain ⟨en, fs⟩ := e
      have ec : en = c := ec
      subst ec
      have nf : fs ≠ [] := hne _ _ h'
      obtain ⟨pd, rfl, hpd⟩ : ∃ pd, d = some pd ∧ H pd = some (.xd (fs.map fun q => (q.1, .int q.2))) := by
        have z2 := z.2
        cases fs with
        | nil => exact absurd rfl nf
        | cons q l => exact z2
      obtain ⟨Hr', up, E'⟩ := env_hold (a := a) E no hi hpd
      exact hp ⟨en, fs⟩ a pd _ _ rfl rfl fl h' _ H Hr' (outN i D) E' (fun ρ' σ' H' Hr2 n E2 s2 => by
        obtain ⟨s, e1, e2⟩ := n
        subst e2
        exact kn _ _ _ Hr2 ⟨s, e1, rfl⟩ (env_gone E2 (hB s).2 (hB s).1) (up.trans s2)) (kr.up up) (kx.up up)
    | false =>
      rw [y] at q
      have h' : (if exHit e.name c = true then _ else _) = some fl := h
      rw [y, if_neg Bool.false_ne_true] at h'
      exact ⟨false, q, (fun z => by cases z), fun _ => hln_run hx no he E z kn kr kx hl h'⟩
theorem db_tryN {te : WX → TE} {lx lc : List Str} {m : Option (Rs α)} {s0 : S1} {k : S1 → Option (Fl S R)} {l : HdL} {hs : List (Str × (Exn → Option (Fl S1 R)))} (hx : exmB G.K lx lc = true) (no : noOR ρ = true)
    (h : ∀ W, DMx W G.K H0 ρ (te W) f Ax m) (w0 : Wks ρ (B1 s0)) (hl : HLN G H0 ρ lc A B1 l hs) (hk : ∀ s, DB G H0 (B1 s) u A (k s) B) : DB G H0 ρ (tSeq (tTryN G.K G.W l fun W => tSeq (tDrop (te W)) tNext) u) A (bindF (tryN lx hs (fun _ => some (.nx s0)) m) k) B := by
  refine db_seq (B1 := B1) (fun fl e => ?_) hk
  obtain ⟨r, h1, h2⟩ := Option.bind_eq_some_iff.mp e
  cases r with
  | ok x =>
    have h2 : some (Fl.nx s0) = some fl := h2
    cases h2
    intro σ H Hr D E kn kr kx
    exact (h _).1 x h1 σ H Hr _ E fun v H1 Hr1 x1 a1 => kn _ _ _ Hr1 ⟨s0, rfl, rfl⟩ ((E.ext x1).wk w0) x1.r
  | ex x =>
    have h2 : (if lx.contains x.name = true then hndN hs x else none) = some fl := h2
    by_cases hc : lx.contains x.name = true
    · rw [if_pos hc] at h2
      intro σ H Hr D E kn kr kx
      refine (h _).2 x h1 σ H Hr _ E fun cls d H' Hr' x1 q => ?_
      have q1 := q.1
      subst q1
      exact hln_run hx no hc (E.ext x1) q (fun ρ' σ' H2 Hr2 n E2 s2 => kn ρ' σ' H2 Hr2 n E2 (x1.r.trans s2)) (kr.up x1.r) (kx.up x1.r) hl h2
    · rw [if_neg hc] at h2
      cases h2
end
end Kj

set_option Elab.async false
set_option linter.all false
set_option maxRecDepth 100000
set_option maxHeartbeats 4000000
/-! Kj77: makers that may raise. -/
namespace Kj
open PySem L2
inductive OutI where
  | ret (fas : List (Str × Abs))
  | exc (X : XA)
def spIXR (S : List Abs → OutI → Prop) (C : Addr) : Sp := fun vs H Q E => ∃ x dx As O rest Hr, vs = .ref x :: rest ∧ H x = some (.ins C dx []) ∧ S As O ∧ Same Hr (rm H x) ∧ AllP As rest Hr ∧ match O with
  | .ret fas => ∀ H' Hr' fs, Ext (rm H x) Hr (rm H' x) Hr' → H' x = some (.ins C dx fs) → FAll fas fs Hr' → Q .non H'
  | .exc X => ∀ cls d H', Same (rm H x) H' → X cls d H' → E cls d H'
def outIZ : OutI → List Slot → XA | .ret _ => fun _ _ _ _ => False | .exc X => fun _ => X
def outIN (xo C dx : Addr) : OutI → List Slot → Prop | .ret fas => fun r => ∃ rest, r = .own (oIns xo C dx fas) :: rest | .exc _ => fun _ => False
def tMakeS (C : Addr) (sp : Sp) (E : St → XK) (t : TA) : TE := fun σ H Q => t σ H fun vs H1 => ∀ x dx, H1 x = none → H1 dx = none → dx ≠ x → sp (.ref x :: vs) (upd (upd H1 dx (.own x)) x (.ins C dx [])) (fun v H2 => v = .non ∧ Q (.ref x) H2) (E σ)
/-- a maker runs, what is raised wished for at the caller's slots -/
theorem run_makeS {X : Cx} {k : Nat} {f C : Addr} {fd : FuncData} {ps : List Str} {sp : Sp} {E : XK} {pins : List (Addr × Obj)} {σ : St} {H : Hp} {s : Shared} {Q : VK} {us : List Value} {vs : List V} (M : Mk X.K C f) (F : FnOk X.prog X.w X.K X.mg X.base (L2.CX X.prog X.w) k f fd ps sp) (hr : Room (k + 1) X.A) (hb : Binds X.K fd ps [])
    (hx : PassesAt (L2.CX X.prog X.w) X σ E) (I : L2.Inv X pins σ H s) (hv : Vals vs us) (hs : ∀ x dx, H x = none → H dx = none → dx ≠ x → sp (.ref x :: vs) (upd (upd H dx (.own x)) x (.ins C dx [])) (fun v H2 => v = .non ∧ Q (.ref x) H2) E) : wpAny (model X.prog X.w) X.A (call (.ref C) us) (EP X pins σ Q) X.xe s := by
  have I1 := I.made (C := C)
  have S := hs (s.heap.objs.size + 1) s.heap.objs.size (I.hok.fresh (Nat.le_succ _)) (I.hok.fresh (Nat.le_refl _)) (Nat.ne_of_lt (Nat.lt_succ_self _))
  have hv1 : Vals (.ref (s.heap.objs.size + 1) :: vs) (.ref (s.heap.objs.size + 1) :: us) := .cons rfl hv
  have hl := F.len _ _ _ _ S
  have tI : PySem.W.typeIn X.K (.ref f) = some (.type "function") := beq_iff_eq.mp M.fn
  have b := hb _ (.ref (s.heap.objs.size + 1) :: us) I1.kIn (by rw [List.append_nil, ← hl]; exact hv1.length.symm)
  rw [List.append_nil] at b
  refine wpAny_call (make_map I.kIn M.makes M.init tI (codeAny_mono (F.run _ _ _ _ _ _ _ _ _ (hr.make C us []) (I1.env0.make C us []) b hv1 S) fun r s2 q => ?_))
  cases r with
  | error e => exact hx pins _ _ e s2 I1 q
  | ok fl =>
    cases fl with
    | next => exact q.elim
    | brk => exact q.elim
    | cont => exact q.elim
    | ret u =>
      obtain ⟨v, H', J, rv, rfl, q'⟩ := I1.after q
      exact ⟨rv, .ref (s.heap.objs.size + 1), H', J, rfl, q'⟩
def MkAtX (P : Program) (w : World) (K : PySem.W.Frag) (mg : Str → Option Value) (base : Heap) (x : Str) (C : Addr) (k : Nat) (ps : List Str) (sp : Sp) : Prop :=
  ∃ f fd, Mk K C f ∧ mg x = some (.ref C) ∧ Binds K fd ps [] ∧ FnOk P w K mg base (L2.CX P w) k f fd ps sp
theorem mkAtX {P : Program} {w : World} {K : PySem.W.Frag} {mg : Str → Option Value} {base : Heap} {x qual name : Str} {C : Addr} {st : Stmt} {f : Addr} {fd : FuncData} {k : Nat} {ps : List Str} {sp : Sp} (F : FnP K x qual st f fd) (M : Mk K C f) (hg : mg name = some (.ref C)) (G : FnOk P w K mg base (L2.CX P w) k f fd ps sp)
    (h : ∀ (kV doc pm : Value) (an : Option Addr) (cdv ct : Value) (us : List Value), us.length = ps.length → bindArgs (PySem.W.fnOf x qual (defArgs st) (defBody st) (defScope st) .none kV doc pm an cdv ct) ⟨us, []⟩ = pure (ps.zip us)) : MkAtX P w K mg base name C k ps sp :=
  ⟨f, fd, M, hg, F.bindsN h, G⟩
theorem pe_mkX {X : Cx} {W : WX} {C : Addr} {k : Nat} {ps : List Str} {sp : Sp} {x : Str} {p pos : Pos} {e : Expr} {es : List Expr} {t : TA} (D : MkAtX X.prog X.w X.K X.mg X.base x C k ps sp) (hr : Room (k + 1) X.A) (tk : Takes X W) (hg : Gl X x)
    (ha : PA X (e :: es) t) (hdb : (x == ("__debug__" : Str)) = false := by decide) (he : starEach (e :: es) X.env = (false, eval e X.env) :: starEach es X.env := by rfl) (hpl : (backTo pos (starEach es X.env)).any (·.1) = false := by rfl) :
    PE X (.Call (.Name x p) (e :: es) [] pos) (tMakeS C sp (WE W) t) := by
  obtain ⟨f, fd, M, h2, hb, F⟩ := D
  refine ⟨fun pins s σ H Q I h => wpAny_Call_Name_kw (ld_glob I hg h2 ?_ hdb)⟩
  refine PySem.W.callWith_K (first := []) (h₀ := X.base) I.ok.mod.kin M.kp (thn (ha.run pos pins s σ H _ I h) fun us s2 ⟨vs, H2, I2, r, q2⟩ => ⟨I2.kIn, ?_⟩) he hpl
  exact run_makeS (us := us) (vs := vs) M F hr hb (passAt tk σ) I2 r q2
section
variable {P : Program} {w : World} {K : PySem.W.Frag} {mg : Str → Option Value} {base : Heap}
theorem initXR_ok {x qual : Str} {st : Stmt} {f C : Addr} {fd : FuncData} {N ps : List Str} {p0 : Str} {k : Nat} {S : List Abs → OutI → Prop} (F : FnP K x qual st f fd) (Sc : FnScope N (p0 :: ps) (defScope st)) (len : ∀ As O, S As O → As.length = ps.length)
    (body : ∀ (cdv : Value) (A : Around) (outer : List Env) (s : Shared) (H : Hp) (E : XK), Room k (A.deeper (PyProof.Rows.envOfC qual (defScope st) s.heap.objs.size f cdv)) →
      ∃ t, PSs (cxOf (L2.CX P w) P w K mg base N qual (defScope st) f cdv A outer s H E) (defBody st) t ∧ ∀ H0 xo dx As O, S As O → DS ⟨fun cls d _ H => E cls d H, outIZ O⟩ H0 (.own (oIns xo C dx []) :: (As.map Slot.new ++ List.replicate (N.length - (As.length + 1)) Slot.no)) t (outIN xo C dx O) aNo) : FnOk P w K mg base (L2.CX P w) (k + 1) f fd (p0 :: ps) (spIXR S C) := by
  refine F.ok Sc (fun vs H Q E h => ?_) (fun cdv A outer s H vs Q E hr h => ?_)
  · obtain ⟨x, dx, As, O, rest, Hr, rfl, _, h1, _, h2, _⟩ := h
    simp [← h2.length, len As O h1]
  · obtain ⟨x, dx, As, O, rest, Hr, rfl, hx, h1, hs, h2, h3⟩ := h
    obtain ⟨t, p, d⟩ := body cdv A outer s H E hr
    have e := env_startN hs (n := N.length - (As.length + 1)) h2
    have E1 := e.consOwnN (B := oIns x C dx []) (noOwn_startN _ _) (noReg_startN _ _) hx (fun G => ⟨rfl, [], rfl, .nil⟩)
    refine ⟨t, p, d (mns (rm H x) Hr) x dx As O h1 _ H Hr _ ?_ (fun ρ' σ' H' Hr' n E' s => ?_) (fun v H' s _ r => r.elim) (fun ρ' σ' H' Hr' cls dd z E' s => ?_)⟩
    · unfold L2.start
      rw [List.map_cons, List.length_cons, ← h2.length]
      exact E1
    · cases O with
      | exc X => exact n.elim
      | ret fas =>
        obtain ⟨rest', rfl⟩ := n
        obtain ⟨p, o, e1, e2, e3, e4, rfl, fs, rfl, q⟩ := E'.slot 0 _ rfl
        have sH : Same (rm H p) (rm H' p) := fun a o q => by
          have ne := (rm_some q).2
          rw [rm_ne ne]
          cases z : Hr a with
          | some u => have := hs _ _ z; rw [q] at this; cases this; exact E'.sub _ _ (s _ _ z)
          | none => exact E'.base _ _ (mns_some.mpr ⟨z, q⟩)
        refine h3 H' _ fs (Ext.call hs (Same.refl _) sH) e4 (q.mono fun a o q => ?_)
        obtain ⟨q1, q2⟩ := mns_some.mp q
        have ne : a ≠ p := fun z => by subst z; rw [e3] at q2; cases q2
        unfold joinH
        cases z : Hr a with
        | some u => have := s _ _ z; rw [q2] at this; exact this.symm
        | none =>
          refine mns_some.mpr ⟨?_, by rw [rm_ne ne]; exact E'.sub _ _ q2⟩
          cases y : rm H p a with
          | none => rfl
          | some u => rw [mns_some.mpr ⟨z, y⟩] at q1; cases q1
    · cases O with
      | ret fas => exact z.elim
      | exc X => exact h3 cls dd H' (same_mns hs E'.base (s.trans E'.sub)) z
end
section
variable {W : WX} {H0 : Hp} {ρ ρ' : List Slot} {K : PySem.W.Frag} {f fa : Bool} {te t' ta tb tc td : TE} {X : XA} {α β γ δ ε S S1 R : Type} {A1 : α → Abs} {B1 : β → Abs} {D1 : δ → Abs} {C : Addr} {O : γ → List (Str × Abs)}
theorem de_makeXR {S : List Abs → OutI → Prop} {As : List Abs} {fas : List (Str × Abs)} {t : TA} {Ex : St → XK} (ha : DA H0 ρ t f As) (hs : S As (.ret fas)) : DE H0 ρ (tMakeS C (spIXR S C) Ex t) f (aIns C fas) := fun σ H Hr Q E k => by
  refine ha σ H Hr _ E fun vs H1 Hr1 x1 a1 x dx hx hdx hne => ?_
  have E1 := E.ext x1
  have lift : Same H1 (rm (upd (upd H1 dx (.own x)) x (.ins C dx [])) x) := fun a o q => by
    have n1 : a ≠ x := ne_of_none q hx
    have n2 : a ≠ dx := ne_of_none q hdx
    rw [rm_ne n1, upd_ne n1, upd_ne n2]; exact q
  refine ⟨x, dx, As, .ret fas, vs, hp f Hr1 H0, rfl, upd_same, hs, ((hp_sub f).trans x1.s).trans lift, a1, fun H' Hr' fs xx hx' hf => ⟨rfl, ?_⟩⟩
  obtain ⟨x3, s3⟩ := Ext.sub (E1.base.trans lift) (E1.sub.trans lift) xx
  have hj : joinR Hr1 Hr' x = none := by
    cases q : joinR Hr1 Hr' x with
    | none => rfl
    | some o => have := (rm_some (x3.s _ _ q)).2; exact absurd rfl this
  have up : Same (joinR Hr1 Hr') (upd (joinR Hr1 Hr') x (.ins C dx fs)) := fun a o q => by rw [upd_ne (ne_of_none q hj)]; exact q
  refine k (.ref x) H' (upd (joinR Hr1 Hr') x (.ins C dx fs)) (x1.trans ⟨fun a o q => ?_, x3.r.trans up, fun a o q => ?_, fun a o q q' => ?_⟩) ⟨x, dx, fs, rfl, hp_lay f E1.base hx, hf.mono (s3.trans (hp_mono f H0 up))⟩
  · exact (rm_some (x3.h _ _ (lift _ _ q))).1
  · by_cases e : a = x
    · subst e; rw [upd_same] at q; cases q; exact hx'
    · rw [upd_ne e] at q; exact (rm_some (x3.s _ _ q)).1
  · by_cases e : a = x
    · subst e; exact hx
    · rw [upd_ne e] at q; exact lift.free (x3.n a o q q')
theorem re_makeXR {S : List Abs → OutI → Prop} {As : List Abs} {t : TA} (ha : DA H0 ρ t f As) (hs : S As (.exc X)) : RE W H0 ρ (tMakeS C (spIXR S C) (WE W) t) X := fun σ H Hr Q E k => by
  refine ha σ H Hr _ E fun vs H1 Hr1 x1 a1 x dx hx hdx hne => ?_
  have lift : Same H1 (rm (upd (upd H1 dx (.own x)) x (.ins C dx [])) x) := fun a o q => by
    have n1 : a ≠ x := ne_of_none q hx
    have n2 : a ≠ dx := ne_of_none q hdx
    rw [rm_ne n1, upd_ne n1, upd_ne n2]; exact q
  exact ⟨x, dx, As, .exc X, vs, hp f Hr1 H0, rfl, upd_same, hs, ((hp_sub f).trans x1.s).trans lift, a1, fun cls d H' s' q => k cls d H' _ (Ext.call E.sub x1.h (lift.trans s')) q⟩
def outOI (K : PySem.W.Frag) (O : γ → List (Str × Abs)) : Rs γ → OutI
  | .ok c => .ret (O c)
  | .ex e => .exc (xP K e)
def six1 (K : PySem.W.Frag) (A1 : α → Abs) (O : γ → List (Str × Abs)) (F : α → Option (Rs γ)) : List Abs → OutI → Prop := fun As o => ∃ a r, As = [A1 a] ∧ F a = some r ∧ o = outOI K O r
def six3 (K : PySem.W.Frag) (A1 : α → Abs) (B1 : β → Abs) (D1 : δ → Abs) (O : γ → List (Str × Abs)) (F : α → β → δ → Option (Rs γ)) : List Abs → OutI → Prop := fun As o => ∃ a b d r, As = [A1 a, B1 b, D1 d] ∧ F a b d = some r ∧ o = outOI K O r
theorem dx_ofI {S : List Abs → OutI → Prop} {t : TA} {mm : Option (Rs γ)} (hs : ∀ r, mm = some r → ∃ As, DA H0 ρ t f As ∧ S As (outOI K O r)) : DMx W K H0 ρ (tMakeS C (spIXR S C) (WE W) t) f (fun c => aIns C (O c)) mm :=
  ⟨fun x e => by
    obtain ⟨As, ha, s⟩ := hs _ e
    exact de_makeXR ha s, fun x e => by
    obtain ⟨As, ha, s⟩ := hs _ e
    exact re_makeXR ha s⟩
theorem dx_make1 {F : α → Option (Rs γ)} {ma : Option α} (h1 : DM H0 ρ ta f A1 ma) : DMx W K H0 ρ (tMakeS C (spIXR (six1 K A1 O F) C) (WE W) (tCons ta tNil)) f (fun c => aIns C (O c)) (b1 F ma) := dx_ofI fun r e => by
  obtain ⟨a, e1, h⟩ := b1_some e
  exact ⟨_, da_consF (h1 a e1) da_nilF, a, r, rfl, h, rfl⟩
def finIX {S R : Type} (m : Option (Fl S R)) : Option (Rs S) := m.bind fun fl => match fl with | .nx s => some (.ok s) | .ex e => some (.ex e) | .rt _ => none
theorem db_finIX {xo dx : Addr} {m : Option (Fl γ Unit)} {c : Rs γ} {rest : List Slot} {t : TS} {W' : WX} (h : DB ⟨W', K⟩ H0 ρ t (aE K) m (fun s => .own (oIns xo C dx (O s)) :: rest)) (e : finIX m = some c) : DS ⟨W', outIZ (outOI K O c)⟩ H0 ρ t (outIN xo C dx (outOI K O c)) aNo := by
  obtain ⟨fl, h1, h2⟩ := Option.bind_eq_some_iff.mp e
  cases fl with
  | nx s => cases h2; exact ds_imp (h _ h1) fun r ⟨s', e', q⟩ => by cases e'; exact ⟨rest, q⟩
  | rt r => cases h2
  | ex r => cases h2; exact ds_imp (h _ h1) fun r ⟨s', e', q⟩ => by cases e'
end
end Kj
namespace Kj
open PySem L2
theorem dm_xfL {H0 : Hp} {ρ : List Slot} {i : Nat} {a p C : Addr} {cls : Value} {d : Option Addr} {fs : List (Str × Int)} {fl : Str} {K : PySem.W.Frag} (hi : ρ[i]? = some (.dat (aXc a p fs))) (hc : cls = .ref C) (hd : d = some p) : DM H0 ρ (tXf a cls d C fl (tVar i)) true (aE K) (fs.lookup fl) := fun x e => dm_xf hi hc hd e x rfl
end Kj

set_option Elab.async false
set_option linter.all false
set_option maxRecDepth 100000
set_option maxHeartbeats 4000000
/-! Kj78: a sign in a text, a sign many times, a list of one thing many times. -/
namespace Kj
open PySem L2
def inStrM (z y : Str) : Option Bool := match z.cps.toList with
  | [c] => some (decide (c ∈ y.cps.toList))
  | _ => none
def mulSM (z : Str) (n : Int) : Option Str := match z.cps.toList with
  | [c] => if 1 ≤ n ∧ n ≤ 1000 then some ⟨(List.replicate n.toNat c).toArray⟩ else none
  | _ => none
def repM {α : Type} (a : α) (k : Int) : Option (List α) := if 0 ≤ k ∧ k ≤ 1000 then some (List.replicate k.toNat a) else none
abbrev rInSg : R2 := fun x y H Q => ∃ (c : Nat) (z : Str), x = .str ⟨#[c]⟩ ∧ y = .str z ∧ Q (.bl (decide (c ∈ z.cps.toList))) H
def rMulSg : R2 := fun x y H Q => ∃ (c : Nat) (n : Int), x = .str ⟨#[c]⟩ ∧ y = .int n ∧ 1 ≤ n ∧ n ≤ 1000 ∧ Q (.str ⟨(List.replicate n.toNat c).toArray⟩) H
theorem fold_sign (c : Nat) : ∀ (n : Nat) (acc : Array Nat), List.foldl (fun x1 x2 => x1 ++ x2) acc (List.replicate n (#[c] : Array Nat)) = acc ++ (List.replicate n c).toArray
  | 0, acc => by simp
  | n + 1, acc => by
    rw [List.replicate_succ, List.foldl_cons, fold_sign c n, List.replicate_succ, Array.append_assoc]
    congr 1
    simp
theorem inv_tok {X : Cx} {pins : List (Addr × Obj)} {σ : St} {H : Hp} {s : Shared} (I : L2.Inv X pins σ H s) (t : Nat) : L2.Inv X pins σ H ⟨s.heap, s.gens, s.drawn, t, s.os⟩ := by
  cases I
  constructor <;> assumption
theorem op_mulSg {X : Cx} : OpR X (binaryOp .Mult) rMulSg := fun pins s σ H x y v u Q I rx ry h => by
  obtain ⟨c, n, rfl, rfl, h1, h2, q⟩ := h
  obtain ⟨t, rfl⟩ := rx
  obtain ⟨t', rfl⟩ := ry
  have lc : (⟨#[c]⟩ : Str).length = 1 := rfl
  refine PySem.P.mul_str (by simp; omega) (fun _ _ => ?_) (fun _ _ => ?_) ?_
  · rw [lc]
    have : (1 : Int) ≤ (2 ^ 63 - 1) / n := (Int.le_ediv_iff_mul_le (by omega)).mpr (by omega)
    show ¬ ((1 : Nat) : Int) > _
    omega
  · rw [lc]
    unfold Builtin.Str.tooLong
    simp [sizeLine_eq]
    omega
  · rw [if_neg (by omega)]
    by_cases e : n = 1
    · subst e
      exact ⟨.str ⟨#[c]⟩, H, I, ⟨t, rfl⟩, q⟩
    · rw [if_neg (by simp [lc, e])]
      rw [fold_sign, Array.empty_append]
      unfold Made.post
      refine ⟨?_, .str _, H, inv_tok I _, ⟨_, rfl⟩, q⟩
      show ((List.replicate n.toNat c).toArray).size ≤ sizeLine
      simp [sizeLine_eq]
      omega
section
variable {H0 : Hp} {ρ : List Slot} {K : PySem.W.Frag} {f fa fb : Bool} {ta tb : TE}
theorem one_sign {z : Str} {c : Nat} (h : z.cps.toList = [c]) : z = ⟨#[c]⟩ := by
  obtain ⟨⟨l⟩⟩ := z
  have h : l = [c] := h
  subst h
  rfl
theorem dm_inStr {ma mb : Option Str} (ha : DM H0 ρ ta fa (aE K) ma) (hb : DM H0 ρ tb fb (aE K) mb) : DM H0 ρ (tOp rInSg ta tb) true (aE K) (b2 inStrM ma mb) := fun x e σ H Hr Q E k => by
  obtain ⟨z, y, h1, h2, h⟩ := b2_some e
  unfold inStrM at h
  split at h
  · rename_i c hz
    cases h
    have hz := one_sign hz
    subst hz
    refine ha _ h1 σ H Hr _ E fun v H1 Hr1 x1 a1 => hb _ h2 σ H1 Hr1 _ (E.ext x1) fun w H2 Hr2 x2 a2 => ?_
    cases a1
    cases a2
    exact ⟨c, y, rfl, rfl, k _ H2 Hr2 (x1.trans x2) (.bl _)⟩
  · cases h
theorem dm_mulS {ma : Option Str} {mb : Option Int} (ha : DM H0 ρ ta fa (aE K) ma) (hb : DM H0 ρ tb fb (aE K) mb) : DM H0 ρ (tOp rMulSg ta tb) true (aE K) (b2 mulSM ma mb) := fun x e σ H Hr Q E k => by
  obtain ⟨z, n, h1, h2, h⟩ := b2_some e
  unfold mulSM at h
  split at h
  · rename_i c hz
    split at h
    · rename_i hn
      cases h
      have hz := one_sign hz
      subst hz
      refine ha _ h1 σ H Hr _ E fun v H1 Hr1 x1 a1 => hb _ h2 σ H1 Hr1 _ (E.ext x1) fun w H2 Hr2 x2 a2 => ?_
      cases a1
      cases a2
      exact ⟨c, n, rfl, rfl, hn.1, hn.2, k _ H2 Hr2 (x1.trans x2) (.str _)⟩
    · cases h
  · cases h
theorem dm_rep1 {α : Type} [Enc α] [Flt α] {ma : Option α} {mb : Option Int} (ha : DM H0 ρ ta fa (aE K) ma) (hb : DM H0 ρ tb fb (aE K) mb) : DM H0 ρ (tOp rRep (tLst (tCons ta tNil)) tb) true (aE K) (b2 repM ma mb) := fun x e σ H Hr Q E k => by
  obtain ⟨a, n, h1, h2, h⟩ := b2_some e
  unfold repM at h
  split at h
  · rename_i hn
    cases h
    refine ha _ h1 σ H Hr _ E fun v H1 Hr1 x1 a1 => ⟨show 1 ≤ sizeLine by decide, fun p hp => ?_⟩
    have ev := dp_vOf (Flt.fl a) a1
    have xp : Ext H1 Hr1 (upd H1 p (.lst [v])) (upd Hr1 p (.lst [v])) := Ext.lay x1.s hp
    have E2 := (E.ext x1).ext xp
    refine hb _ h2 σ _ _ _ E2 fun w H2 Hr2 x2 a2 => ?_
    cases a2
    refine ⟨p, n, [v], rfl, rfl, x2.h _ _ upd_same, by omega, by omega, by simp [sizeLine_eq]; omega, fun q hq => ?_⟩
    have er : (List.replicate n.toNat [v]).flatten = rowV (List.replicate n.toNat a) := by
      rw [ev]
      generalize n.toNat = j
      induction j with
      | zero => rfl
      | succ j ih => rw [List.replicate_succ, List.flatten_cons, ih, List.replicate_succ]; rfl
    rw [er]
    have x12 := (x1.trans xp).trans x2
    exact k _ _ _ (x12.trans (Ext.lay x2.s hq)) (.lst (SqL.of (hp_lay true (E2.ext x2).base hq)) (rowV_dp _))
  · cases h
end
end Kj

set_option Elab.async false
set_option linter.all false
set_option maxRecDepth 100000
set_option maxHeartbeats 4000000
namespace Kj
open PySem L2
abbrev lxn : List Str := ["Alike", "BadBook", "BadVerse"]
abbrev lxc : List Str := ["Alike", "BadBook", "BadVerse", "SnatchError"]
def f_check_rows_x (v_rows : (List (List Str))) : Option (Rs Unit) := finXN (S := Unit) 
  (bindF (S1 := Unit) (iteM (notM (chM leI leI (some (1 : Int)) (b1 lenL (some v_rows)) (some (40 : Int))))
    (some (Fl.ex ⟨"BadBook", []⟩))
    (some (Fl.nx ()))) fun s1 => (bindF (S1 := Unit) (b1 (fun xs => forF (fun x3 s2 => (bindF (S1 := Unit) (iteM (notM (b1 f_is_verse (some x3.b)))
    (b1 (fun i => some (Fl.ex ⟨"BadVerse", [("row", i)]⟩)) (some x3.a))
    (some (Fl.nx ()))) fun s5 => (some (Fl.nx ())))) xs ()) (b1 enumM (some v_rows))) fun s2 => (bindF (S1 := Unit) (b1 (fun xs => forF (fun x7 s6 => (bindF (S1 := Unit) (b1 (fun xs => forF (fun x13 s12 => (bindF (S1 := Unit) (iteM (orM (b2 f_begins (b2 atI (some v_rows) (some x13)) (b2 atI (some v_rows) (some x7))) (b2 f_begins (b2 atI (some v_rows) (some x7)) (b2 atI (some v_rows) (some x13))))
    (b2 (fun i j => some (Fl.ex ⟨"Alike", [("other", j), ("one", i)]⟩)) (some x13) (some x7))
    (some (Fl.nx ()))) fun s15 => (some (Fl.nx ())))) xs ()) (b1 rngM (some x7))) fun s12 => (some (Fl.nx ())))) xs ()) (b1 rngM (b1 lenL (some v_rows)))) fun s6 => (some (Fl.nx ())))))
def f_Book___init___x (v_verses : (List (List Str))) : Option (Rs BookT) := finIX (R := Unit)
  (bX (fun _ => (b1 (fun y0 => (some (Fl.nx (⟨y0⟩ : BookT)))) (b1 (lcM fun x1 => lcE (some true) (b1 listM (some x1))) (some v_verses)))) (b1 f_check_rows_x (some v_verses)))
def f_law_is_line (v_law_line : (List Str)) : Option Bool := finF (S := Unit) (R := Bool) 
  (bindF (S1 := Unit) (iteM (notM (chM leI leI (some (1 : Int)) (b1 lenL (some v_law_line)) (some (8 : Int))))
    (b1 (fun r => some (Fl.rt r)) (some false))
    (some (Fl.nx ()))) fun s1 => (bindF (S1 := Unit) (b1 (fun xs => forF (fun x3 s2 => (bindF (S1 := Unit) (iteM (orM (notM (chM leI leI (some (1 : Int)) (b1 lenS (some x3)) (some (3 : Int)))) (notM (b1 allM (b1 (lcM fun x6 => lcE (some true) (b2 inStrM (some x6) (some ("abcdefghijklmnopqrstuvwxyz" : Str)))) (b1 strM (some x3))))))
    (b1 (fun r => some (Fl.rt r)) (some false))
    (some (Fl.nx ()))) fun s7 => (some (Fl.nx ())))) xs ()) (some v_law_line)) fun s2 => (b1 (fun r => some (Fl.rt r)) (some true))))
def f_law_book_bad (v_law_verses : (List (List Str))) : Option (P3 Str Int Int) := finF (S := Unit) (R := (P3 Str Int Int)) 
  (bindF (S1 := Unit) (iteM (notM (chM leI leI (some (1 : Int)) (b1 lenL (some v_law_verses)) (some (40 : Int))))
    (b1 (fun r => some (Fl.rt r)) (b3 mk3 (some ("BadBook" : Str)) (some (0 : Int)) (some (0 : Int))))
    (some (Fl.nx ()))) fun s1 => (bindF (S1 := Unit) (b1 (fun xs => forF (fun x3 s2 => (bindF (S1 := Unit) (iteM (notM (b1 f_law_is_line (b2 atI (some v_law_verses) (some x3))))
    (b1 (fun r => some (Fl.rt r)) (b3 mk3 (some ("BadVerse" : Str)) (some x3) (some (0 : Int))))
    (some (Fl.nx ()))) fun s5 => (some (Fl.nx ())))) xs ()) (b1 rngM (b1 lenL (some v_law_verses)))) fun s2 => (bindF (S1 := Unit) (b1 (fun xs => forF (fun x7 s6 => (bindF (S1 := Unit) (b1 (fun xs => forF (fun x13 s12 => (bindF (S1 := Unit) (iteM (b2 f_law_alike (b2 atI (some v_law_verses) (some x13)) (b2 atI (some v_law_verses) (some x7)))
    (b1 (fun r => some (Fl.rt r)) (b3 mk3 (some ("Alike" : Str)) (some x13) (some x7)))
    (some (Fl.nx ()))) fun s15 => (some (Fl.nx ())))) xs ()) (b1 rngM (some x7))) fun s12 => (some (Fl.nx ())))) xs ()) (b1 rngM (b1 lenL (some v_law_verses)))) fun s6 => (b1 (fun r => some (Fl.rt r)) (b3 mk3 (some ("" : Str)) (some (0 : Int)) (some (0 : Int)))))))
def f_law_why_book (v_law_verses : (List (List Str))) : Option (P3 Str Int Int) := finF (S := Unit) (R := (P3 Str Int Int)) 
  (b1 (fun v_law_why => (bindF (S1 := (P3 Str Int Int)) (tryN lxn [("BadBook", fun _ => (b1 (fun v_law_why => (some (Fl.nx v_law_why)))
    (b3 mk3 (some ("BadBook" : Str)) (some (0 : Int)) (some (0 : Int))))), ("BadVerse", fun e => (b1 (fun v_law_why => (some (Fl.nx v_law_why)))
    (b3 mk3 (some ("BadVerse" : Str)) (e.flds.lookup ("row" : Str)) (some (0 : Int))))), ("Alike", fun e => (b1 (fun v_law_why => (some (Fl.nx v_law_why)))
    (b3 mk3 (some ("Alike" : Str)) (e.flds.lookup ("one" : Str)) (e.flds.lookup ("other" : Str))))), ("SnatchError", fun _ => (b1 (fun v_law_why => (some (Fl.nx v_law_why)))
    (b3 mk3 (some ("other" : Str)) (some (0 : Int)) (some (0 : Int)))))] (fun _ => some (Fl.nx v_law_why)) (b1 f_Book___init___x (some v_law_verses))) fun s1 => (b1 (fun r => some (Fl.rt r)) (some s1))))
    (b3 mk3 (some ("" : Str)) (some (0 : Int)) (some (0 : Int))))
def f_law_spoilt_book (v_law_verses : (List (List Str))) (v_law_d : (List Int)) : Option (List (List Str)) := finF (S := Unit) (R := (List (List Str))) 
  (b1 (fun v_law_at => (b1 (fun v_law_line => (b1 (fun v_law_here => (bindF (S1 := (List Str)) (iteM (b2 eqM (b2 modI (b2 atI (some v_law_d) (some (0 : Int))) (some (6 : Int))) (some (0 : Int)))
    (b1 (fun v_law_odd => (b1 (fun v_law_line => (b1 (fun r => some (Fl.rt r)) (b2 catM (b2 catM (b3 cutM (some v_law_verses) noneM (someM (some v_law_at))) (b1 shortM (b2 consM (some v_law_line) (some ([] : List (List Str)))))) (b3 cutM (some v_law_verses) (someM (some v_law_at)) noneM))))
    (b2 catM (b2 catM (b3 cutM (some v_law_line) noneM (someM (some v_law_here))) (b1 shortM (b2 consM (some v_law_odd) (some ([] : List Str))))) (b3 cutM (some v_law_line) (someM (b2 addI (some v_law_here) (some (1 : Int)))) noneM))))
    (b2 atI (b1 shortM (b2 consM (some ("" : Str)) (b2 consM (some ("abcd" : Str)) (b2 consM (some ("A" : Str)) (b2 consM (some ("a b" : Str)) (b2 consM (some ("-" : Str)) (b2 consM (some ("a1" : Str)) (b2 consM (some (" a" : Str)) (b2 consM (some ("ab\n" : Str)) (b2 consM (some ("aB" : Str)) (some ([] : List Str)))))))))))) (b2 modI (b2 atI (some v_law_d) (some (4 : Int))) (some (9 : Int)))))
    (some (Fl.nx v_law_line))) fun s1 => (bindF (S1 := Unit) (iteM (b2 eqM (b2 modI (b2 atI (some v_law_d) (some (0 : Int))) (some (6 : Int))) (some (1 : Int)))
    (b1 (fun r => some (Fl.rt r)) (b2 catM (b2 catM (b3 cutM (some v_law_verses) noneM (someM (some v_law_at))) (b1 shortM (b2 consM (b3 cutM (some s1) noneM (someM (some v_law_here))) (some ([] : List (List Str)))))) (b3 cutM (some v_law_verses) (someM (some v_law_at)) noneM)))
    (some (Fl.nx ()))) fun s2 => (bindF (S1 := Unit) (iteM (b2 eqM (b2 modI (b2 atI (some v_law_d) (some (0 : Int))) (some (6 : Int))) (some (2 : Int)))
    (b1 (fun r => some (Fl.rt r)) (b2 catM (b2 catM (b3 cutM (some v_law_verses) noneM (someM (some v_law_at))) (b1 shortM (b2 consM (b2 catM (some s1) (b2 repM (some ("a" : Str)) (b2 modI (b2 atI (some v_law_d) (some (4 : Int))) (some (9 : Int))))) (some ([] : List (List Str)))))) (b3 cutM (some v_law_verses) (someM (some v_law_at)) noneM)))
    (some (Fl.nx ()))) fun s3 => (bindF (S1 := Unit) (iteM (b2 eqM (b2 modI (b2 atI (some v_law_d) (some (0 : Int))) (some (6 : Int))) (some (3 : Int)))
    (b1 (fun r => some (Fl.rt r)) (b2 catM (b2 catM (b3 cutM (some v_law_verses) noneM (someM (some v_law_at))) (b1 shortM (b2 consM (b2 catM (b3 cutM (some s1) noneM (someM (some v_law_here))) (b3 cutM (b1 shortM (b2 consM (some ("zzz" : Str)) (b2 consM (some ("q" : Str)) (some ([] : List Str))))) noneM (someM (b2 modI (b2 atI (some v_law_d) (some (4 : Int))) (some (3 : Int)))))) (some ([] : List (List Str)))))) (b3 cutM (some v_law_verses) (someM (some v_law_at)) noneM)))
    (some (Fl.nx ()))) fun s4 => (bindF (S1 := Unit) (iteM (b2 eqM (b2 modI (b2 atI (some v_law_d) (some (0 : Int))) (some (6 : Int))) (some (4 : Int)))
    (b1 (fun r => some (Fl.rt r)) (b2 catM (b2 catM (b3 cutM (some v_law_verses) noneM (someM (some v_law_at))) (b1 shortM (b2 consM (b1 shortM (b2 consM (some ("zz" : Str)) (b2 consM (b2 mulSM (some ("q" : Str)) (b2 addI (some (1 : Int)) (b2 modI (b2 atI (some v_law_d) (some (4 : Int))) (some (4 : Int))))) (some ([] : List Str))))) (some ([] : List (List Str)))))) (b3 cutM (some v_law_verses) (someM (some v_law_at)) noneM)))
    (some (Fl.nx ()))) fun s5 => (b1 (fun r => some (Fl.rt r)) (b2 catM (some v_law_verses) (b1 (lcM fun x6 => lcE (some true) (b2 catM (b1 shortM (b2 consM (some ("qq" : Str)) (some ([] : List Str)))) (b3 cutM (some x6) noneM (someM (some (1 : Int)))))) (some v_law_verses))))))))))
    (b2 modI (b2 atI (some v_law_d) (some (3 : Int))) (b2 maxI (some (1 : Int)) (b1 lenL (some v_law_line))))))
    (b2 atI (some v_law_verses) (b2 modI (b2 atI (some v_law_d) (some (2 : Int))) (b1 lenL (some v_law_verses))))))
    (b2 modI (b2 atI (some v_law_d) (some (1 : Int))) (b2 addI (b1 lenL (some v_law_verses)) (some (1 : Int)))))
def f_law (v_law_script : (List Int)) : Option Bool := finF (S := Unit) (R := Bool) 
  (b1 (fun v_law_numbers_here => (b1 (fun v_law_verses => (bindF (S1 := (List (List Str))) (b1 (fun xs => forF (fun x2 s1 => (b1 (fun v_law_verses => (some (Fl.nx v_law_verses)))
    (b2 f_law_spoilt_book (some s1) (b3 cutM (some v_law_numbers_here) (someM (b2 addI (some (3 : Int)) (b2 mulI (some (5 : Int)) (some x2)))) noneM)))) xs v_law_verses) (b1 rngM (b2 modI (b2 atI (some v_law_numbers_here) (some (1 : Int))) (some (4 : Int))))) fun s1 => (bindF (S1 := (List (List Str))) (iteM (b2 eqM (b2 modI (b2 atI (some v_law_numbers_here) (some (2 : Int))) (some (19 : Int))) (some (18 : Int)))
    (b1 (fun v_law_verses => (some (Fl.nx v_law_verses)))
    (b1 shortM (some ([] : List (List Str)))))
    (some (Fl.nx s1))) fun s3 => (b1 (fun v_law_handed => (b1 (fun r => some (Fl.rt r)) (andM (b2 sameM (b1 f_law_why_book (some v_law_handed)) (b1 f_law_book_bad (some s3))) (b2 eqM (some v_law_handed) (some s3)))))
    (b1 f_law_copy (some s3))))))
    (b2 f_law_book (b3 cutM (some v_law_numbers_here) (someM (some (20 : Int))) noneM) (b2 atI (b1 shortM (b2 consM (some (5 : Int)) (b2 consM (some (12 : Int)) (b2 consM (some (40 : Int)) (some ([] : List Int)))))) (b2 modI (b2 atI (some v_law_numbers_here) (some (0 : Int))) (some (3 : Int)))))))
    (b2 f_law_numbers (some v_law_script) (some (290 : Int))))
end Kj

set_option Elab.async false
set_option linter.all false
set_option maxRecDepth 100000
set_option maxHeartbeats 4000000
/-! KjMj: the mathematics of deals. -/
namespace Kj
open PySem L2
theorem mk3_eq {α β γ : Type} {a : α} {b : β} {c : γ} : mk3 a b c = some ⟨a, b, c⟩ := Eq.trans rfl rfl
theorem mk4_eq {α β γ δ : Type} {a : α} {b : β} {c : γ} {d : δ} : mk4 a b c d = some ⟨a, b, c, d⟩ := Eq.trans rfl rfl
theorem anyM_eq {bs : List Bool} : anyM bs = some (bs.any id) := Eq.trans rfl rfl
theorem one1_eq {β : Type} {y : β} : one1 y = some [y] := Eq.trans rfl rfl
/-- two fields, as they may lie -/
def Fd (rs : List (List Int)) : Prop := 1 ≤ rs.length ∧ rs.length ≤ 3 ∧ ∀ r ∈ rs, r.length ≤ 12
def DOk (m : Nat) (x0 x1 : List (List Int)) : Prop := Fd x0 ∧ Fd x1 ∧ (x0.flatten ++ x1.flatten).Nodup ∧ ∀ c ∈ x0.flatten ++ x1.flatten, 0 ≤ c ∧ c < (m : Int)
theorem DOk.put {m : Nat} {x0 x1 y0 y1 : List (List Int)} (h : DOk m x0 x1) (f0 : Fd y0) (f1 : Fd y1) (hp : (y0.flatten ++ y1.flatten).Perm ((m : Int) :: (x0.flatten ++ x1.flatten))) : DOk (m + 1) y0 y1 := by
  obtain ⟨_, _, h3, h4⟩ := h
  refine ⟨f0, f1, hp.nodup_iff.mpr (List.nodup_cons.mpr ⟨fun z => ?_, h3⟩), fun c hc => ?_⟩
  · have := h4 _ z; omega
  · rcases List.mem_cons.mp (hp.mem_iff.mp hc) with e | e
    · subst e; omega
    · have := h4 _ e; omega
theorem DOk.mono {m n : Nat} {x0 x1 : List (List Int)} (h : DOk m x0 x1) (hm : m ≤ n) : DOk n x0 x1 := ⟨h.1, h.2.1, h.2.2.1, fun c hc => by have := h.2.2.2 c hc; omega⟩
/-! ### deals -/
theorem sum_le {xs : List (List Int)} (h : ∀ r ∈ xs, r.length ≤ 12) : xs.flatten.length ≤ 12 * xs.length := by
  induction xs with
  | nil => simp
  | cons x xs ih =>
    rw [List.flatten_cons, List.length_append, List.length_cons]
    have := h x (by simp)
    have := ih fun r hr => h r (by simp [hr])
    omega
theorem Fd.len {x : List (List Int)} (h : Fd x) : x.flatten.length ≤ 36 := by
  have := sum_le h.2.2; have := h.2.1; omega
/-- the field f -/
def fAt (x0 x1 : List (List Int)) (f : Int) : List (List Int) := if f = 0 then x0 else x1
theorem fAt_fd {m : Nat} {x0 x1 : List (List Int)} (h : DOk m x0 x1) (f : Int) : Fd (fAt x0 x1 f) := by
  unfold fAt; split
  · exact h.1
  · exact h.2.1
theorem atI_f {x0 x1 : List (List Int)} {f : Int} (h : f = 0 ∨ f = 1) : atI ([x0, x1] : List (List (List Int))) f = some (fAt x0 x1 f) := by
  rcases h with rfl | rfl <;> rfl
def stray (x0 x1 : List (List Int)) (vs : List Int) (f : Int) : List Int := vs.filter fun v => !decide (v ∈ (fAt x0 x1 f).flatten)
def home (x0 x1 : List (List Int)) (v : Int) : Int := if v ∈ x0.flatten then 0 else if v ∈ x1.flatten then 1 else -1
theorem mem_any {v : Int} {rs : List (List Int)} : ((rs.map fun r => decide (v ∈ r)).any id) = decide (v ∈ rs.flatten) := by
  rw [Bool.eq_iff_iff, List.any_eq_true, decide_eq_true_iff, List.mem_flatten]
  constructor
  · rintro ⟨z, hz, h⟩
    obtain ⟨r, hr, rfl⟩ := List.mem_map.mp hz
    exact ⟨r, hr, of_decide_eq_true h⟩
  · rintro ⟨r, hr, h⟩
    exact ⟨_, List.mem_map.mpr ⟨r, hr, rfl⟩, decide_eq_true h⟩
theorem home_ok {m : Nat} {x0 x1 : List (List Int)} (hd : DOk m x0 x1) (v : Int) : f_law_home [x0, x1] v = some (home x0 x1 v) := by
  have a0 := hd.1.2.1
  have a1 := hd.2.1.2.1
  unfold f_law_home
  simp only [c1, c2, c3, c4, c5, cmap, cbind, cnx, crt, cfin, cfinN, cfinR, cfinO, cfinP, cexn, cfinX, cfinXe, cfinXn, cfinXr, cfinXx, addI_eq, subI_eq, negI_eq, ltI_eq, leI_eq, gtI_eq, geI_eq, eqM_eq, neM_eq, inM_eq, notInM_eq, andM_2, orM_2, notM_ss, iteM_ss, lenL_eq, cutM_eq, listM_eq, allM_eq, someM_ss, noneM_eq, revM_eq, consM_eq, minI_eq, maxI_eq, mk2_eq, mk3_eq, mk4_eq, anyM_eq, one1_eq, Bool.not_true, Bool.not_false]
  rw [rngM_ok (by omega) (by omega)]
  simp only [c1, c2, c3, c4, c5, cmap, cbind, cnx, crt, cfin, cfinN, cfinR, cfinO, cfinP, cexn, cfinX, cfinXe, cfinXn, cfinXr, cfinXx, addI_eq, subI_eq, negI_eq, ltI_eq, leI_eq, gtI_eq, geI_eq, eqM_eq, neM_eq, inM_eq, notInM_eq, andM_2, orM_2, notM_ss, iteM_ss, lenL_eq, cutM_eq, listM_eq, allM_eq, someM_ss, noneM_eq, revM_eq, consM_eq, minI_eq, maxI_eq, mk2_eq, mk3_eq, mk4_eq, anyM_eq, one1_eq, Bool.not_true, Bool.not_false]
  rw [show (List.range (2 : Int).toNat).map (fun n : Nat => (n : Int)) = [0, 1] from rfl]
  rw [lc_filter (fun f => decide (v ∈ (fAt x0 x1 f).flatten)) (by simp) fun f hf => ?_]
  · simp only [c1, c2, c3, c4, c5, cmap, cbind, cnx, crt, cfin, cfinN, cfinR, cfinO, cfinP, cexn, cfinX, cfinXe, cfinXn, cfinXr, cfinXx, addI_eq, subI_eq, negI_eq, ltI_eq, leI_eq, gtI_eq, geI_eq, eqM_eq, neM_eq, inM_eq, notInM_eq, andM_2, orM_2, notM_ss, iteM_ss, lenL_eq, cutM_eq, listM_eq, allM_eq, someM_ss, noneM_eq, revM_eq, consM_eq, minI_eq, maxI_eq, mk2_eq, mk3_eq, mk4_eq, anyM_eq, one1_eq, Bool.not_true, Bool.not_false]
    rw [shortM_ok (by simp)]
    simp only [c1, c2, c3, c4, c5, cmap, cbind, cnx, crt, cfin, cfinN, cfinR, cfinO, cfinP, cexn, cfinX, cfinXe, cfinXn, cfinXr, cfinXx, addI_eq, subI_eq, negI_eq, ltI_eq, leI_eq, gtI_eq, geI_eq, eqM_eq, neM_eq, inM_eq, notInM_eq, andM_2, orM_2, notM_ss, iteM_ss, lenL_eq, cutM_eq, listM_eq, allM_eq, someM_ss, noneM_eq, revM_eq, consM_eq, minI_eq, maxI_eq, mk2_eq, mk3_eq, mk4_eq, anyM_eq, one1_eq, Bool.not_true, Bool.not_false]
    unfold home
    by_cases h0 : v ∈ x0.flatten
    · by_cases h1 : v ∈ x1.flatten
      · rw [if_pos h0]; simp [List.filter, fAt, h0, h1, catM, atI, ixN, b1]
      · rw [if_pos h0]; simp [List.filter, fAt, h0, h1, catM, atI, ixN, b1]
    · rw [if_neg h0]
      by_cases h1 : v ∈ x1.flatten
      · rw [if_pos h1]; simp [List.filter, fAt, h0, h1, catM, atI, ixN, b1]
      · rw [if_neg h1]; simp [List.filter, fAt, h0, h1, catM, atI, ixN, b1]
  · have hf' : f = 0 ∨ f = 1 := by simpa using hf
    rw [atI_f hf']
    simp only [c1, c2, c3, c4, c5, cmap, cbind, cnx, crt, cfin, cfinN, cfinR, cfinO, cfinP, cexn, cfinX, cfinXe, cfinXn, cfinXr, cfinXx, addI_eq, subI_eq, negI_eq, ltI_eq, leI_eq, gtI_eq, geI_eq, eqM_eq, neM_eq, inM_eq, notInM_eq, andM_2, orM_2, notM_ss, iteM_ss, lenL_eq, cutM_eq, listM_eq, allM_eq, someM_ss, noneM_eq, revM_eq, consM_eq, minI_eq, maxI_eq, mk2_eq, mk3_eq, mk4_eq, anyM_eq, one1_eq, Bool.not_true, Bool.not_false]
    rw [lc_map (fun r => decide (v ∈ r)) (by have := (fAt_fd hd f).2.1; omega) fun r _ => rfl]
    simp only [c1, c2, c3, c4, c5, cmap, cbind, cnx, crt, cfin, cfinN, cfinR, cfinO, cfinP, cexn, cfinX, cfinXe, cfinXn, cfinXr, cfinXx, addI_eq, subI_eq, negI_eq, ltI_eq, leI_eq, gtI_eq, geI_eq, eqM_eq, neM_eq, inM_eq, notInM_eq, andM_2, orM_2, notM_ss, iteM_ss, lenL_eq, cutM_eq, listM_eq, allM_eq, someM_ss, noneM_eq, revM_eq, consM_eq, minI_eq, maxI_eq, mk2_eq, mk3_eq, mk4_eq, anyM_eq, one1_eq, Bool.not_true, Bool.not_false, mem_any]
theorem on_ok {m : Nat} {x0 x1 : List (List Int)} (hd : DOk m x0 x1) {vs : List Int} (hl : vs.length ≤ 1000) (f : Int) : f_law_on [x0, x1] vs f = some (decide (∀ v ∈ vs, home x0 x1 v = f)) := by
  unfold f_law_on
  simp only [c1, c2, c3, c4, c5, cmap, cbind, cnx, crt, cfin, cfinN, cfinR, cfinO, cfinP, cexn, cfinX, cfinXe, cfinXn, cfinXr, cfinXx, addI_eq, subI_eq, negI_eq, ltI_eq, leI_eq, gtI_eq, geI_eq, eqM_eq, neM_eq, inM_eq, notInM_eq, andM_2, orM_2, notM_ss, iteM_ss, lenL_eq, cutM_eq, listM_eq, allM_eq, someM_ss, noneM_eq, revM_eq, consM_eq, minI_eq, maxI_eq, mk2_eq, mk3_eq, mk4_eq, anyM_eq, one1_eq, Bool.not_true, Bool.not_false]
  rw [lc_map (fun v => decide (home x0 x1 v = f)) (by omega) fun v _ => by rw [home_ok hd]; rfl]
  simp only [c1, c2, c3, c4, c5, cmap, cbind, cnx, crt, cfin, cfinN, cfinR, cfinO, cfinP, cexn, cfinX, cfinXe, cfinXn, cfinXr, cfinXx, addI_eq, subI_eq, negI_eq, ltI_eq, leI_eq, gtI_eq, geI_eq, eqM_eq, neM_eq, inM_eq, notInM_eq, andM_2, orM_2, notM_ss, iteM_ss, lenL_eq, cutM_eq, listM_eq, allM_eq, someM_ss, noneM_eq, revM_eq, consM_eq, minI_eq, maxI_eq, mk2_eq, mk3_eq, mk4_eq, anyM_eq, one1_eq, Bool.not_true, Bool.not_false]
  congr 1
  rw [Bool.eq_iff_iff, List.all_eq_true, decide_eq_true_iff]
  constructor
  · intro h v hv
    exact of_decide_eq_true (h _ (List.mem_map.mpr ⟨v, hv, rfl⟩))
  · intro h z hz
    obtain ⟨v, hv, rfl⟩ := List.mem_map.mp hz
    exact decide_eq_true (h v hv)
/-- the fields on which sweeps are faultless -/
def free (x0 x1 : List (List Int)) (vs : List Int) : List Int := [(0 : Int), 1].filter fun f => decide (∀ v ∈ vs, home x0 x1 v = f)
theorem r2 : (List.range (2 : Int).toNat).map (fun n : Nat => (n : Int)) = [0, 1] := rfl
end Kj

set_option Elab.async false
set_option linter.all false
set_option maxRecDepth 100000
set_option maxHeartbeats 4000000
/-! KjMk: what the laws of deals draw and reckon. -/
namespace Kj
open PySem L2
theorem meet_ref {b : BL} {u : List Int} {hd : List Str} (hb : b.length ≤ 40) (h : ∀ n ∈ u, InB b n) : f_law_meet b u hd = some (meet b u hd) := by
  unfold f_law_meet
  simp only [c1, c2, c3, c4, c5, cmap, cbind, cnx, crt, cfin, cfinN, cfinR, cfinO, cfinP, cexn, cfinX, cfinXe, cfinXn, cfinXr, cfinXx, addI_eq, subI_eq, negI_eq, ltI_eq, leI_eq, gtI_eq, geI_eq, eqM_eq, neM_eq, inM_eq, notInM_eq, andM_2, orM_2, notM_ss, iteM_ss, lenL_eq, cutM_eq, listM_eq, allM_eq, someM_ss, noneM_eq, revM_eq, consM_eq, minI_eq, maxI_eq, mk2_eq]
  rw [rngM_ok (by omega) (by omega)]
  simp only [c1, c2, c3, c4, c5, cmap, cbind, cnx, crt, cfin, cfinN, cfinR, cfinO, cfinP, cexn, cfinX, cfinXe, cfinXn, cfinXr, cfinXx, addI_eq, subI_eq, negI_eq, ltI_eq, leI_eq, gtI_eq, geI_eq, eqM_eq, neM_eq, inM_eq, notInM_eq, andM_2, orM_2, notM_ss, iteM_ss, lenL_eq, cutM_eq, listM_eq, allM_eq, someM_ss, noneM_eq, revM_eq, consM_eq, minI_eq, maxI_eq, mk2_eq]
  rw [lc_filter (fun n => decide (n ∈ u) && decide ((vAt b n).take hd.length = hd)) (by simp; omega) fun x hx => by
    obtain ⟨k, hk, rfl⟩ := List.mem_map.mp hx
    have := List.mem_range.mp hk
    rw [atI_v (b := b) ⟨by omega, by omega⟩]
    simp only [c1, c2, c3, c4, c5, cmap, cbind, cnx, crt, cfin, cfinN, cfinR, cfinO, cfinP, cexn, cfinX, cfinXe, cfinXn, cfinXr, cfinXx, addI_eq, subI_eq, negI_eq, ltI_eq, leI_eq, gtI_eq, geI_eq, eqM_eq, neM_eq, inM_eq, notInM_eq, andM_2, orM_2, notM_ss, iteM_ss, lenL_eq, cutM_eq, listM_eq, allM_eq, someM_ss, noneM_eq, revM_eq, consM_eq, minI_eq, maxI_eq, mk2_eq]
    rw [cutD_to _ (by omega)]
    rfl]
  simp only [c1, c2, c3, c4, c5, cmap, cbind, cnx, crt, cfin, cfinN, cfinR, cfinO, cfinP, cexn, cfinX, cfinXe, cfinXn, cfinXr, cfinXx, addI_eq, subI_eq, negI_eq, ltI_eq, leI_eq, gtI_eq, geI_eq, eqM_eq, neM_eq, inM_eq, notInM_eq, andM_2, orM_2, notM_ss, iteM_ss, lenL_eq, cutM_eq, listM_eq, allM_eq, someM_ss, noneM_eq, revM_eq, consM_eq, minI_eq, maxI_eq, mk2_eq]
  congr 1
  refine pw_unique (List.Pairwise.filter _ ?_) ((srtI_pw u).sublist List.filter_sublist) fun k => ?_
  · rw [List.pairwise_map]
    exact (List.pairwise_lt_range (n := ((b.length : Nat) : Int).toNat)).imp fun h => by omega
  · rw [mem_meet, List.mem_filter, Bool.and_eq_true, decide_eq_true_iff, decide_eq_true_iff]
    constructor
    · rintro ⟨_, h1, h2⟩; exact ⟨h1, h2⟩
    · rintro ⟨h1, h2⟩
      obtain ⟨k0, k1⟩ := h k h1
      exact ⟨List.mem_map.mpr ⟨k.toNat, List.mem_range.mpr (by omega), by omega⟩, h1, h2⟩
theorem free_ok {b : BL} {x0 x1 : List (List Int)} (hb : b.length ≤ 40) (hd : DOk b.length x0 x1) {u : List Int} {hh : List Str} (h : ∀ n ∈ u, InB b n) (hl : u.length < 64) : f_law_free b [x0, x1] u hh = some (free x0 x1 (meet b u hh)) := by
  unfold f_law_free
  have hm := meet_len b u hh
  simp only [c1, c2, c3, c4, c5, cmap, cbind, cnx, crt, cfin, cfinN, cfinR, cfinO, cfinP, cexn, cfinX, cfinXe, cfinXn, cfinXr, cfinXx, addI_eq, subI_eq, negI_eq, ltI_eq, leI_eq, gtI_eq, geI_eq, eqM_eq, neM_eq, inM_eq, notInM_eq, andM_2, orM_2, notM_ss, iteM_ss, lenL_eq, cutM_eq, listM_eq, allM_eq, someM_ss, noneM_eq, revM_eq, consM_eq, minI_eq, maxI_eq, mk2_eq, mk3_eq, mk4_eq, anyM_eq, one1_eq, Bool.not_true, Bool.not_false, meet_ref hb h]
  rw [rngM_ok (by omega) (by omega), r2]
  simp only [c1, c2, c3, c4, c5, cmap, cbind, cnx, crt, cfin, cfinN, cfinR, cfinO, cfinP, cexn, cfinX, cfinXe, cfinXn, cfinXr, cfinXx, addI_eq, subI_eq, negI_eq, ltI_eq, leI_eq, gtI_eq, geI_eq, eqM_eq, neM_eq, inM_eq, notInM_eq, andM_2, orM_2, notM_ss, iteM_ss, lenL_eq, cutM_eq, listM_eq, allM_eq, someM_ss, noneM_eq, revM_eq, consM_eq, minI_eq, maxI_eq, mk2_eq, mk3_eq, mk4_eq, anyM_eq, one1_eq, Bool.not_true, Bool.not_false]
  rw [lc_filter (fun f => decide (∀ v ∈ meet b u hh, home x0 x1 v = f)) (by simp) fun f hf => on_ok hd (by omega) f]
  simp only [c1, c2, c3, c4, c5, cmap, cbind, cnx, crt, cfin, cfinN, cfinR, cfinO, cfinP, cexn, cfinX, cfinXe, cfinXn, cfinXr, cfinXx, addI_eq, subI_eq, negI_eq, ltI_eq, leI_eq, gtI_eq, geI_eq, eqM_eq, neM_eq, inM_eq, notInM_eq, andM_2, orM_2, notM_ss, iteM_ss, lenL_eq, cutM_eq, listM_eq, allM_eq, someM_ss, noneM_eq, revM_eq, consM_eq, minI_eq, maxI_eq, mk2_eq, mk3_eq, mk4_eq, anyM_eq, one1_eq, Bool.not_true, Bool.not_false]
  rfl
theorem Unr.in {b : BL} {u : List Int} (h : Unr b.length u) : ∀ n ∈ u, InB b n := fun n hn => h.2 n hn
end Kj

set_option Elab.async false
set_option linter.all false
set_option maxRecDepth 100000
set_option maxHeartbeats 4000000
/-! KjMl: where cards lie, and moments. -/
namespace Kj
open PySem L2
/-- the size from which on a sweep is faultless -/
def mom (b : BL) (u : List Int) (v : Int) (x0 x1 : List (List Int)) : Nat := ((stray x0 x1 (riv b u v 0) (home x0 x1 v)).map fun n => shr (vAt b v) (vAt b n) + 1).foldr max 0
end Kj

set_option Elab.async false
set_option linter.all false
set_option maxRecDepth 100000
set_option maxHeartbeats 4000000
/-! KjMm: sweeps. -/
namespace Kj
open PySem L2
def SwOk (x0 x1 : List (List Int)) (s : P4 Int Int Int Int) : Prop := (s.a = 0 ∨ s.a = 1) ∧ 0 ≤ s.b ∧ s.b < (fAt x0 x1 s.a).length ∧ 0 ≤ s.c ∧ s.c ≤ s.d ∧ s.d < ((fAt x0 x1 s.a).getD s.b.toNat []).length
def swp (x0 x1 : List (List Int)) (s : P4 Int Int Int Int) : List Int := cutD ((fAt x0 x1 s.a).getD s.b.toNat []) (some s.c) (some (s.d + 1))
end Kj

set_option Elab.async false
set_option linter.all false
set_option maxRecDepth 100000
set_option maxHeartbeats 4000000
/-! KjMn: covers. -/
namespace Kj
open PySem L2
def enumL (rs : List (List Int)) : List (P2 Int (List Int)) := rs.zipIdx.map fun p => ⟨(p.2 : Int), p.1⟩
/-- where some of the cards lie in a row -/
def pl (us cards : List Int) : List Int := ((List.range cards.length).map fun k : Nat => (k : Int)).filter fun i => decide (cards.getD i.toNat 0 ∈ us)
def rsw (us : List Int) (f : Int) (q : P2 Int (List Int)) : List (P4 Int Int Int Int) := if pl us q.b = [] then [] else [⟨f, q.a, (pl us q.b).getD 0 0, (pl us q.b).getD ((pl us q.b).length - 1) 0⟩]
def cvf (us : List Int) (f : Int) (rs : List (List Int)) : List (P4 Int Int Int Int) := (enumL rs).flatMap (rsw us f)
def cov (us : List Int) (x0 x1 : List (List Int)) : List (P4 Int Int Int Int) := cvf us 0 x0 ++ cvf us 1 x1
theorem mem_enumL {rs : List (List Int)} {q : P2 Int (List Int)} : q ∈ enumL rs ↔ ∃ k : Nat, q.a = (k : Int) ∧ rs[k]? = some q.b := by
  unfold enumL
  rw [List.mem_map]
  constructor
  · rintro ⟨⟨r, k⟩, hp, rfl⟩
    exact ⟨k, rfl, by simpa using List.mem_zipIdx_iff_getElem?.mp hp⟩
  · rintro ⟨k, e1, e2⟩
    exact ⟨(q.b, k), List.mem_zipIdx_iff_getElem?.mpr e2, by obtain ⟨a, b⟩ := q; dsimp only at e1 ⊢; rw [e1]⟩
theorem Fd.cards {rs : List (List Int)} (h : Fd rs) {q : P2 Int (List Int)} (hq : q ∈ enumL rs) : q.b.length ≤ 12 := by
  obtain ⟨k, _, e⟩ := mem_enumL.mp hq
  exact h.2.2 _ (List.mem_of_getElem? e)
/-- a sweep of a cover -/
structure CvOk (us : List Int) (x0 x1 : List (List Int)) (s : P4 Int Int Int Int) : Prop where
  ok : SwOk x0 x1 s
  ne : pl us ((fAt x0 x1 s.a).getD s.b.toNat []) ≠ []
  c : s.c = (pl us ((fAt x0 x1 s.a).getD s.b.toNat [])).getD 0 0
  d : s.d = (pl us ((fAt x0 x1 s.a).getD s.b.toNat [])).getD ((pl us ((fAt x0 x1 s.a).getD s.b.toNat [])).length - 1) 0
end Kj

set_option Elab.async false
set_option linter.all false
set_option maxRecDepth 100000
set_option maxHeartbeats 4000000
/-! KjMq: what is raised of books and deals. -/
namespace Kj
open PySem L2
instance {b : BL} {n : Int} : Decidable (InB b n) := by unfold InB; infer_instance
section
variable {α β S R : Type} {x : α} {e : Exn}
theorem xbO {k : α → Option (Fl S R)} : bX k (some (.ok x)) = k x := Eq.trans rfl rfl
theorem xbE {k : α → Option (Fl S R)} : bX k (some (.ex e)) = some (.ex e) := Eq.trans rfl rfl
end
theorem dec_ff {p q : Prop} [Decidable p] [Decidable q] (h : ¬(p ∧ q)) : (decide p && decide q) = false := by
  rw [← Bool.not_eq_true, Bool.and_eq_true, decide_eq_true_iff, decide_eq_true_iff]; exact h
/-! ### deals -/
def RwOk (x0 x1 : List (List Int)) (f r : Int) : Prop := (f = 0 ∨ f = 1) ∧ 0 ≤ r ∧ r < (fAt x0 x1 f).length
instance {x0 x1 : List (List Int)} {f r : Int} : Decidable (RwOk x0 x1 f r) := by unfold RwOk; infer_instance
instance {x0 x1 : List (List Int)} {s : P4 Int Int Int Int} : Decidable (SwOk x0 x1 s) := by unfold SwOk; infer_instance
theorem SwOk.row {x0 x1 : List (List Int)} {s : P4 Int Int Int Int} (h : SwOk x0 x1 s) : RwOk x0 x1 s.a s.b := ⟨h.1, h.2.1, h.2.2.1⟩
/-- why a sweep is not there -/
def swB (x0 x1 : List (List Int)) (s : P4 Int Int Int Int) : Str := if RwOk x0 x1 s.a s.b then (if SwOk x0 x1 s then "" else "NoCard") else "NoField"
/-! ### what laws draw -/
end Kj

set_option Elab.async false
set_option linter.all false
set_option maxRecDepth 100000
set_option maxHeartbeats 4000000
namespace Kj
open PySem L2
/-- sizes of texts, lines, books -/
def Bz (N L : Nat) (b : BL) : Prop := b.length ≤ N ∧ ∀ v ∈ b, v.length ≤ L ∧ ∀ z ∈ v, z.cps.size ≤ 4
def syB (z : Str) : Bool := (decide (1 ≤ z.cps.size) && decide (z.cps.size ≤ 3)) && z.cps.toList.all fun c => decide (97 ≤ c) && decide (c ≤ 122)
def veB (v : List Str) : Bool := (decide (1 ≤ v.length) && decide (v.length ≤ 8)) && v.all syB
theorem lenS_4 {z : Str} (h : z.cps.size ≤ 4) : lenS z = some (z.cps.size : Int) := by
  unfold lenS
  rw [if_pos (by show z.cps.size ≤ sizeLine; rw [sizeLine_eq]; omega)]
  rfl
theorem chI {a b c : Int} : chM leI leI (some a) (some b) (some c) = some (decide (a ≤ b) && decide (b ≤ c)) := chM_i leI_eq leI_eq
theorem andM_f {m : Option Bool} : andM (some false) m = some false := rfl
theorem andM_t {m : Option Bool} : andM (some true) m = m := rfl
theorem syl_b {z : Str} (h : z.cps.size ≤ 4) : f_is_syllable z = some (syB z) := by
  unfold f_is_syllable syB
  simp only [c1, c2, c3, c4, c5, cmap, cbind, cnx, crt, cfin, cfinN, cfinR, cfinO, cfinP, cexn, cfinX, cfinXe, cfinXn, cfinXr, cfinXx, addI_eq, subI_eq, negI_eq, ltI_eq, leI_eq, gtI_eq, geI_eq, eqM_eq, neM_eq, inM_eq, notInM_eq, andM_2, orM_2, notM_ss, iteM_ss, lenL_eq, cutM_eq, listM_eq, allM_eq, someM_ss, noneM_eq, revM_eq, consM_eq, minI_eq, maxI_eq, mk2_eq, mk3_eq, mk4_eq, anyM_eq, one1_eq, Bool.not_true, Bool.not_false, lenS_4 h, chI]
  rw [show decide ((1 : Int) ≤ (z.cps.size : Int)) = decide (1 ≤ z.cps.size) by congr 1; simp; omega, show decide ((z.cps.size : Int) ≤ 3) = decide (z.cps.size ≤ 3) by congr 1; simp; omega]
  cases hb : (decide (1 ≤ z.cps.size) && decide (z.cps.size ≤ 3)) with
  | false => simp only [andM_f, c1, c2, c3, c4, c5, cmap, cbind, cnx, crt, cfin, cfinN, cfinR, cfinO, cfinP, cexn, cfinX, cfinXe, cfinXn, cfinXr, cfinXx, addI_eq, subI_eq, negI_eq, ltI_eq, leI_eq, gtI_eq, geI_eq, eqM_eq, neM_eq, inM_eq, notInM_eq, andM_2, orM_2, notM_ss, iteM_ss, lenL_eq, cutM_eq, listM_eq, allM_eq, someM_ss, noneM_eq, revM_eq, consM_eq, minI_eq, maxI_eq, mk2_eq, mk3_eq, mk4_eq, anyM_eq, one1_eq, Bool.not_true, Bool.not_false, Bool.false_and]
  | true =>
    unfold strM
    simp only [c1, c2, c3, c4, c5, cmap, cbind, cnx, crt, cfin, cfinN, cfinR, cfinO, cfinP, cexn, cfinX, cfinXe, cfinXn, cfinXr, cfinXx, addI_eq, subI_eq, negI_eq, ltI_eq, leI_eq, gtI_eq, geI_eq, eqM_eq, neM_eq, inM_eq, notInM_eq, andM_2, orM_2, notM_ss, iteM_ss, lenL_eq, cutM_eq, listM_eq, allM_eq, someM_ss, noneM_eq, revM_eq, consM_eq, minI_eq, maxI_eq, mk2_eq, mk3_eq, mk4_eq, anyM_eq, one1_eq, Bool.not_true, Bool.not_false, andM_t, Bool.true_and]
    rw [lc_map (fun s : Str => match s.cps.toList with | [c] => decide (97 ≤ c) && decide (c ≤ 122) | _ => false) (by rw [List.length_map, Array.length_toList]; omega)]
    · simp only [c1, c2, c3, c4, c5, cmap, cbind, cnx, crt, cfin, cfinN, cfinR, cfinO, cfinP, cexn, cfinX, cfinXe, cfinXn, cfinXr, cfinXx, addI_eq, subI_eq, negI_eq, ltI_eq, leI_eq, gtI_eq, geI_eq, eqM_eq, neM_eq, inM_eq, notInM_eq, andM_2, orM_2, notM_ss, iteM_ss, lenL_eq, cutM_eq, listM_eq, allM_eq, someM_ss, noneM_eq, revM_eq, consM_eq, minI_eq, maxI_eq, mk2_eq, mk3_eq, mk4_eq, anyM_eq, one1_eq, Bool.not_true, Bool.not_false, List.all_map]
      rfl
    · intro x hx
      obtain ⟨c, hc, rfl⟩ := List.mem_map.mp hx
      show chM leS leS (some ⟨#[97]⟩) (some ⟨#[c]⟩) (some ⟨#[122]⟩) = some (decide (97 ≤ c) && decide (c ≤ 122))
      exact chM_i (leS_one _ _) (leS_one _ _)
theorem ver_b {v : List Str} (hl : v.length ≤ 1000) (h : ∀ z ∈ v, z.cps.size ≤ 4) : f_is_verse v = some (veB v) := by
  unfold f_is_verse veB
  simp only [c1, c2, c3, c4, c5, cmap, cbind, cnx, crt, cfin, cfinN, cfinR, cfinO, cfinP, cexn, cfinX, cfinXe, cfinXn, cfinXr, cfinXx, addI_eq, subI_eq, negI_eq, ltI_eq, leI_eq, gtI_eq, geI_eq, eqM_eq, neM_eq, inM_eq, notInM_eq, andM_2, orM_2, notM_ss, iteM_ss, lenL_eq, cutM_eq, listM_eq, allM_eq, someM_ss, noneM_eq, revM_eq, consM_eq, minI_eq, maxI_eq, mk2_eq, mk3_eq, mk4_eq, anyM_eq, one1_eq, Bool.not_true, Bool.not_false, chI]
  rw [show decide ((1 : Int) ≤ (v.length : Int)) = decide (1 ≤ v.length) by congr 1; simp; omega, show decide ((v.length : Int) ≤ 8) = decide (v.length ≤ 8) by congr 1; simp; omega]
  cases hb : (decide (1 ≤ v.length) && decide (v.length ≤ 8)) with
  | false => simp only [andM_f, c1, c2, c3, c4, c5, cmap, cbind, cnx, crt, cfin, cfinN, cfinR, cfinO, cfinP, cexn, cfinX, cfinXe, cfinXn, cfinXr, cfinXx, addI_eq, subI_eq, negI_eq, ltI_eq, leI_eq, gtI_eq, geI_eq, eqM_eq, neM_eq, inM_eq, notInM_eq, andM_2, orM_2, notM_ss, iteM_ss, lenL_eq, cutM_eq, listM_eq, allM_eq, someM_ss, noneM_eq, revM_eq, consM_eq, minI_eq, maxI_eq, mk2_eq, mk3_eq, mk4_eq, anyM_eq, one1_eq, Bool.not_true, Bool.not_false, Bool.false_and]
  | true =>
    simp only [andM_t, Bool.true_and]
    rw [lc_map syB (by omega) fun z hz => syl_b (h z hz)]
    simp only [c1, c2, c3, c4, c5, cmap, cbind, cnx, crt, cfin, cfinN, cfinR, cfinO, cfinP, cexn, cfinX, cfinXe, cfinXn, cfinXr, cfinXx, addI_eq, subI_eq, negI_eq, ltI_eq, leI_eq, gtI_eq, geI_eq, eqM_eq, neM_eq, inM_eq, notInM_eq, andM_2, orM_2, notM_ss, iteM_ss, lenL_eq, cutM_eq, listM_eq, allM_eq, someM_ss, noneM_eq, revM_eq, consM_eq, minI_eq, maxI_eq, mk2_eq, mk3_eq, mk4_eq, anyM_eq, one1_eq, Bool.not_true, Bool.not_false, List.all_map]
    rfl
/-- a loop that stops at the first that g speaks of -/
theorem forF_find {α R : Type} {B : α → Unit → Option (Fl Unit R)} (g : α → Option (Fl Unit R)) (hg : ∀ x e, g x = some e → ∀ s, e ≠ .nx s) : ∀ {xs : List α}, (∀ x ∈ xs, B x () = some ((g x).getD (.nx ()))) → forF B xs () = some ((xs.findSome? g).getD (.nx ()))
  | [], _ => rfl
  | x :: xs, h => by
    show bindF (B x ()) (fun s => forF B xs s) = _
    rw [h x List.mem_cons_self, List.findSome?_cons]
    cases e : g x with
    | none => exact forF_find g hg fun y hy => h y (List.mem_cons_of_mem _ hy)
    | some fl =>
      have := hg x fl e
      cases fl with
      | nx s => exact absurd rfl (this s)
      | rt r => rfl
      | ex r => rfl
theorem findSome_map {α β γ : Type} (f : α → Option β) (h : β → γ) : ∀ xs : List α, xs.findSome? (fun x => (f x).map h) = (xs.findSome? f).map h
  | [] => rfl
  | x :: xs => by
    rw [List.findSome?_cons, List.findSome?_cons]
    cases f x with
    | none => exact findSome_map f h xs
    | some y => rfl
def letters : Str := "abcdefghijklmnopqrstuvwxyz"
theorem letter (c : Nat) : inStrM ⟨#[c]⟩ letters = some (decide (97 ≤ c) && decide (c ≤ 122)) := by
  show some (decide (c ∈ letters.cps.toList)) = _
  congr 1
  rw [Bool.eq_iff_iff, Bool.and_eq_true, decide_eq_true_iff, decide_eq_true_iff, decide_eq_true_iff]
  have e : letters.cps.toList = List.range' 97 26 := by decide +kernel
  rw [e, List.mem_range']
  constructor
  · rintro ⟨i, hi, rfl⟩; omega
  · rintro ⟨h1, h2⟩; exact ⟨c - 97, by omega, by omega⟩
theorem line_b {v : List Str} (hl : v.length ≤ 1000) (h : ∀ z ∈ v, z.cps.size ≤ 4) : f_law_is_line v = some (veB v) := by
  unfold f_law_is_line veB
  simp only [c1, c2, c3, c4, c5, cmap, cbind, cnx, crt, cfin, cfinN, cfinR, cfinO, cfinP, cexn, cfinX, cfinXe, cfinXn, cfinXr, cfinXx, addI_eq, subI_eq, negI_eq, ltI_eq, leI_eq, gtI_eq, geI_eq, eqM_eq, neM_eq, inM_eq, notInM_eq, andM_2, orM_2, notM_ss, iteM_ss, lenL_eq, cutM_eq, listM_eq, allM_eq, someM_ss, noneM_eq, revM_eq, consM_eq, minI_eq, maxI_eq, mk2_eq, mk3_eq, mk4_eq, anyM_eq, one1_eq, Bool.not_true, Bool.not_false, chI]
  rw [show decide ((1 : Int) ≤ (v.length : Int)) = decide (1 ≤ v.length) by congr 1; simp; omega, show decide ((v.length : Int) ≤ 8) = decide (v.length ≤ 8) by congr 1; simp; omega]
  cases hb : (decide (1 ≤ v.length) && decide (v.length ≤ 8)) with
  | false => simp only [Bool.not_false, if_true, c1, c2, c3, c4, c5, cmap, cbind, cnx, crt, cfin, cfinN, cfinR, cfinO, cfinP, cexn, cfinX, cfinXe, cfinXn, cfinXr, cfinXx, addI_eq, subI_eq, negI_eq, ltI_eq, leI_eq, gtI_eq, geI_eq, eqM_eq, neM_eq, inM_eq, notInM_eq, andM_2, orM_2, notM_ss, iteM_ss, lenL_eq, cutM_eq, listM_eq, allM_eq, someM_ss, noneM_eq, revM_eq, consM_eq, minI_eq, maxI_eq, mk2_eq, mk3_eq, mk4_eq, anyM_eq, one1_eq, Bool.not_true, Bool.not_false, Bool.false_and]
  | true =>
    simp only [Bool.not_true, Bool.false_eq_true, if_false, c1, c2, c3, c4, c5, cmap, cbind, cnx, crt, cfin, cfinN, cfinR, cfinO, cfinP, cexn, cfinX, cfinXe, cfinXn, cfinXr, cfinXx, addI_eq, subI_eq, negI_eq, ltI_eq, leI_eq, gtI_eq, geI_eq, eqM_eq, neM_eq, inM_eq, notInM_eq, andM_2, orM_2, notM_ss, iteM_ss, lenL_eq, cutM_eq, listM_eq, allM_eq, someM_ss, noneM_eq, revM_eq, consM_eq, minI_eq, maxI_eq, mk2_eq, mk3_eq, mk4_eq, anyM_eq, one1_eq, Bool.not_true, Bool.not_false, Bool.true_and]
    rw [forF_find (fun z => if syB z = true then none else some (.rt false)) (fun z e he s => by
      split at he
      · cases he
      · cases he; intro q; cases q) fun z hz => ?_]
    · have : ∀ xs : List Str, (xs.findSome? fun z => if syB z = true then none else some (Fl.rt (S := Unit) false)) = if xs.all syB = true then none else some (.rt false) := by
        intro xs
        induction xs with
        | nil => rfl
        | cons z xs ih =>
          rw [List.findSome?_cons, List.all_cons]
          cases e : syB z with
          | true => rw [if_pos rfl, Bool.true_and]; exact ih
          | false => rw [if_neg Bool.false_ne_true, Bool.false_and, if_neg Bool.false_ne_true]
      rw [this]
      cases v.all syB <;> rfl
    · have hz4 := h z hz
      rw [show ("abcdefghijklmnopqrstuvwxyz" : Str) = letters from rfl]
      simp only [c1, c2, c3, c4, c5, cmap, cbind, cnx, crt, cfin, cfinN, cfinR, cfinO, cfinP, cexn, cfinX, cfinXe, cfinXn, cfinXr, cfinXx, addI_eq, subI_eq, negI_eq, ltI_eq, leI_eq, gtI_eq, geI_eq, eqM_eq, neM_eq, inM_eq, notInM_eq, andM_2, orM_2, notM_ss, iteM_ss, lenL_eq, cutM_eq, listM_eq, allM_eq, someM_ss, noneM_eq, revM_eq, consM_eq, minI_eq, maxI_eq, mk2_eq, mk3_eq, mk4_eq, anyM_eq, one1_eq, Bool.not_true, Bool.not_false, lenS_4 hz4]
      rw [chI]
      unfold syB
      rw [show decide ((1 : Int) ≤ (z.cps.size : Int)) = decide (1 ≤ z.cps.size) by congr 1; simp; omega, show decide ((z.cps.size : Int) ≤ 3) = decide (z.cps.size ≤ 3) by congr 1; simp; omega]
      cases hb : (decide (1 ≤ z.cps.size) && decide (z.cps.size ≤ 3)) with
      | false => rfl
      | true =>
        unfold strM
        simp only [c1, c2, c3, c4, c5, cmap, cbind, cnx, crt, cfin, cfinN, cfinR, cfinO, cfinP, cexn, cfinX, cfinXe, cfinXn, cfinXr, cfinXx, addI_eq, subI_eq, negI_eq, ltI_eq, leI_eq, gtI_eq, geI_eq, eqM_eq, neM_eq, inM_eq, notInM_eq, andM_2, orM_2, notM_ss, iteM_ss, lenL_eq, cutM_eq, listM_eq, allM_eq, someM_ss, noneM_eq, revM_eq, consM_eq, minI_eq, maxI_eq, mk2_eq, mk3_eq, mk4_eq, anyM_eq, one1_eq, Bool.not_true, Bool.not_false, Bool.true_and]
        rw [lc_map (fun s : Str => match s.cps.toList with | [c] => decide (97 ≤ c) && decide (c ≤ 122) | _ => false) (by rw [List.length_map, Array.length_toList]; omega)]
        · simp only [c1, c2, c3, c4, c5, cmap, cbind, cnx, crt, cfin, cfinN, cfinR, cfinO, cfinP, cexn, cfinX, cfinXe, cfinXn, cfinXr, cfinXx, addI_eq, subI_eq, negI_eq, ltI_eq, leI_eq, gtI_eq, geI_eq, eqM_eq, neM_eq, inM_eq, notInM_eq, andM_2, orM_2, notM_ss, iteM_ss, lenL_eq, cutM_eq, listM_eq, allM_eq, someM_ss, noneM_eq, revM_eq, consM_eq, minI_eq, maxI_eq, mk2_eq, mk3_eq, mk4_eq, anyM_eq, one1_eq, Bool.not_true, Bool.not_false, List.all_map]
          change bindF (if (false || !(z.cps.toList.all fun c => decide (97 ≤ c) && decide (c ≤ 122))) = true then some (Fl.rt false) else some (Fl.nx ())) _ = _
          cases (z.cps.toList.all fun c => decide (97 ≤ c) && decide (c ≤ 122)) <;> rfl
        · intro x hx
          obtain ⟨c, hc, rfl⟩ := List.mem_map.mp hx
          exact letter c
theorem forF_map' {α β R : Type} {B : β → Unit → Option (Fl Unit R)} {g : α → β} : ∀ xs : List α, forF B (xs.map g) () = forF (fun x s => B (g x) s) xs ()
  | [] => rfl
  | x :: xs => by
    show bindF (B (g x) ()) (fun s => forF B (xs.map g) s) = bindF (B (g x) ()) fun s => forF (fun x s => B (g x) s) xs s
    have : (fun s : Unit => forF B (xs.map g) s) = fun s => forF (fun x s => B (g x) s) xs s := by funext s; cases s; exact forF_map' xs
    rw [this]
theorem enum_map {α : Type} (xs : List α) (z : α) : (xs.zipIdx.map fun p => (⟨(p.2 : Int), p.1⟩ : P2 Int α)) = (List.range xs.length).map fun k => ⟨(k : Int), xs.getD k z⟩ := by
  apply List.ext_getElem?
  intro i
  rw [List.getElem?_map, List.getElem?_map, List.getElem?_zipIdx]
  by_cases h : i < xs.length
  · rw [List.getElem?_eq_getElem h, List.getElem?_range h]
    simp [List.getD_eq_getElem?_getD, List.getElem?_eq_getElem h]
  · rw [List.getElem?_eq_none (by omega), List.getElem?_eq_none (by simp; omega)]
    rfl
def row1 (b : BL) : Option Nat := (List.range b.length).findSome? fun k => if veB (b.getD k []) = true then none else some k
def pair2 (b : BL) : Option (Nat × Nat) := (List.range b.length).findSome? fun j => (List.range j).findSome? fun i => if alk (b.getD i []) (b.getD j []) = true then some (i, j) else none
def badP (b : BL) : P3 Str Int Int := if 1 ≤ b.length ∧ b.length ≤ 40 then (match row1 b with
  | some i => ⟨"BadVerse", (i : Int), 0⟩
  | none => match pair2 b with
    | some p => ⟨"Alike", (p.1 : Int), (p.2 : Int)⟩
    | none => ⟨"", 0, 0⟩) else ⟨"BadBook", 0, 0⟩
def badX (b : BL) : Rs Unit := if 1 ≤ b.length ∧ b.length ≤ 40 then (match row1 b with
  | some i => .ex ⟨"BadVerse", [("row", (i : Int))]⟩
  | none => match pair2 b with
    | some p => .ex ⟨"Alike", [("other", (p.2 : Int)), ("one", (p.1 : Int))]⟩
    | none => .ok ()) else .ex ⟨"BadBook", []⟩
theorem loop1 {β R : Type} {b : BL} {B : β → Unit → Option (Fl Unit R)} {k : Nat → β} (st : Nat → Fl Unit R) (hst : ∀ i s, st i ≠ .nx s) (h : ∀ i, i < b.length → B (k i) () = some (if veB (b.getD i []) = true then .nx () else st i)) : forF B ((List.range b.length).map k) () = some (((row1 b).map st).getD (.nx ())) := by
  rw [forF_map', forF_find (fun i => if veB (b.getD i []) = true then none else some (st i)) (fun i e he s => by
    split at he
    · cases he
    · cases he; exact hst i s) fun i hi => ?_]
  · unfold row1
    rw [← findSome_map]
    congr 2
    congr 1
    funext i
    split <;> rfl
  · rw [h i (List.mem_range.mp hi)]
    split <;> rfl
theorem loop2 {R : Type} {b : BL} {B : Int → Unit → Option (Fl Unit R)} {I : Int → Int → Unit → Option (Fl Unit R)} (st : Nat → Nat → Fl Unit R) (hst : ∀ i j s, st i j ≠ .nx s)
    (hB : ∀ j : Nat, j < b.length → B (j : Int) () = bindF (S1 := Unit) (forF (I (j : Int)) ((List.range j).map fun k : Nat => (k : Int)) ()) fun _ => some (.nx ()))
    (hI : ∀ i j : Nat, i < j → j < b.length → I (j : Int) (i : Int) () = some (if alk (b.getD i []) (b.getD j []) = true then st i j else .nx ())) : forF B ((List.range b.length).map fun k : Nat => (k : Int)) () = some (((pair2 b).map fun p => st p.1 p.2).getD (.nx ())) := by
  have inner : ∀ j, j < b.length → forF (I (j : Int)) ((List.range j).map fun k : Nat => (k : Int)) () = some ((((List.range j).findSome? fun i => if alk (b.getD i []) (b.getD j []) = true then some (i, j) else none).map fun p => st p.1 p.2).getD (.nx ())) := fun j hj => by
    rw [forF_map', forF_find (fun i => if alk (b.getD i []) (b.getD j []) = true then some (st i j) else none) (fun i e he s => by
      split at he
      · cases he; exact hst i j s
      · cases he) fun i hi => ?_]
    · rw [← findSome_map]
      congr 2
      congr 1
      funext i
      split <;> rfl
    · rw [hI i j (List.mem_range.mp hi) hj]
      split <;> rfl
  rw [forF_map', forF_find (fun j => ((List.range j).findSome? fun i => if alk (b.getD i []) (b.getD j []) = true then some (i, j) else none).map fun p => st p.1 p.2) (fun j e he s => by
    obtain ⟨p, _, rfl⟩ := Option.map_eq_some_iff.mp he
    exact hst _ _ s) fun j hj => ?_]
  · unfold pair2
    rw [← findSome_map]
  · have hj := List.mem_range.mp hj
    rw [hB j hj, inner j hj]
    cases e : ((List.range j).findSome? fun i => if alk (b.getD i []) (b.getD j []) = true then some (i, j) else none) with
    | none => rfl
    | some p =>
      show bindF (some (st p.1 p.2)) _ = some (st p.1 p.2)
      have := hst p.1 p.2
      cases h : st p.1 p.2 with
      | nx s => exact absurd h (this s)
      | rt r => rfl
      | ex r => rfl
theorem bad_ok {b : BL} {N L : Nat} (hN : N ≤ 100000) (hL : L ≤ 1000) (hb : Bz N L b) : f_law_book_bad b = some (badP b) := by
  have h1 := hb.1
  have at_ : ∀ k : Nat, k < b.length → atI b (k : Int) = some (b.getD k []) := fun k hk => by rw [atI_ok (z := []) (by omega) (by omega)]; rfl
  have mem : ∀ k : Nat, k < b.length → b.getD k [] ∈ b := fun k hk => getD_mem hk
  unfold f_law_book_bad badP
  simp only [c1, c2, c3, c4, c5, cmap, cbind, cnx, crt, cfin, cfinN, cfinR, cfinO, cfinP, cexn, cfinX, cfinXe, cfinXn, cfinXr, cfinXx, addI_eq, subI_eq, negI_eq, ltI_eq, leI_eq, gtI_eq, geI_eq, eqM_eq, neM_eq, inM_eq, notInM_eq, andM_2, orM_2, notM_ss, iteM_ss, lenL_eq, cutM_eq, listM_eq, allM_eq, someM_ss, noneM_eq, revM_eq, consM_eq, minI_eq, maxI_eq, mk2_eq, mk3_eq, mk4_eq, anyM_eq, one1_eq, Bool.not_true, Bool.not_false, chI]
  rw [show decide ((1 : Int) ≤ (b.length : Int)) = decide (1 ≤ b.length) by congr 1; simp; omega, show decide ((b.length : Int) ≤ 40) = decide (b.length ≤ 40) by congr 1; simp; omega]
  by_cases hr : 1 ≤ b.length ∧ b.length ≤ 40
  · rw [if_pos hr, decide_eq_true hr.1, decide_eq_true hr.2, rngM_ok (by omega) (by omega)]
    simp only [c1, c2, c3, c4, c5, cmap, cbind, cnx, crt, cfin, cfinN, cfinR, cfinO, cfinP, cexn, cfinX, cfinXe, cfinXn, cfinXr, cfinXx, addI_eq, subI_eq, negI_eq, ltI_eq, leI_eq, gtI_eq, geI_eq, eqM_eq, neM_eq, inM_eq, notInM_eq, andM_2, orM_2, notM_ss, iteM_ss, lenL_eq, cutM_eq, listM_eq, allM_eq, someM_ss, noneM_eq, revM_eq, consM_eq, minI_eq, maxI_eq, mk2_eq, mk3_eq, mk4_eq, anyM_eq, one1_eq, Bool.not_true, Bool.not_false, Bool.and_self, Bool.not_true, Bool.false_eq_true, if_false]
    rw [show ((b.length : Int)).toNat = b.length from rfl]
    rw [loop1 (k := fun k : Nat => (k : Int)) (fun i => .rt ⟨"BadVerse", (i : Int), 0⟩) (fun i s z => by cases z) fun i hi => ?_]
    · cases row1 b with
      | some i => rfl
      | none =>
        simp only [Option.map_none, Option.getD_none, c1, c2, c3, c4, c5, cmap, cbind, cnx, crt, cfin, cfinN, cfinR, cfinO, cfinP, cexn, cfinX, cfinXe, cfinXn, cfinXr, cfinXx, addI_eq, subI_eq, negI_eq, ltI_eq, leI_eq, gtI_eq, geI_eq, eqM_eq, neM_eq, inM_eq, notInM_eq, andM_2, orM_2, notM_ss, iteM_ss, lenL_eq, cutM_eq, listM_eq, allM_eq, someM_ss, noneM_eq, revM_eq, consM_eq, minI_eq, maxI_eq, mk2_eq, mk3_eq, mk4_eq, anyM_eq, one1_eq, Bool.not_true, Bool.not_false]
        rw [loop2 (I := fun x7 x13 s12 => (bindF (S1 := Unit) (iteM (b2 f_law_alike (atI b x13) (atI b x7)) (some (Fl.rt ⟨"Alike", x13, x7⟩)) (some (Fl.nx ()))) fun s15 => some (Fl.nx ()))) (fun i j => .rt ⟨"Alike", (i : Int), (j : Int)⟩) (fun i j s z => by cases z) (fun j hj => ?_) fun i j hi hj => ?_]
        · cases pair2 b with
          | some p => rfl
          | none => rfl
        · rw [rngM_ok (by omega) (by omega)]
          rfl
        · rw [at_ i (by omega), at_ j hj]
          simp only [c1, c2, c3, c4, c5, cmap, cbind, cnx, crt, cfin, cfinN, cfinR, cfinO, cfinP, cexn, cfinX, cfinXe, cfinXn, cfinXr, cfinXx, addI_eq, subI_eq, negI_eq, ltI_eq, leI_eq, gtI_eq, geI_eq, eqM_eq, neM_eq, inM_eq, notInM_eq, andM_2, orM_2, notM_ss, iteM_ss, lenL_eq, cutM_eq, listM_eq, allM_eq, someM_ss, noneM_eq, revM_eq, consM_eq, minI_eq, maxI_eq, mk2_eq, mk3_eq, mk4_eq, anyM_eq, one1_eq, Bool.not_true, Bool.not_false, alike_eq]
          cases alk (b.getD i []) (b.getD j []) <;> rfl
    · rw [at_ i hi]
      have := hb.2 _ (mem i hi)
      simp only [c1, c2, c3, c4, c5, cmap, cbind, cnx, crt, cfin, cfinN, cfinR, cfinO, cfinP, cexn, cfinX, cfinXe, cfinXn, cfinXr, cfinXx, addI_eq, subI_eq, negI_eq, ltI_eq, leI_eq, gtI_eq, geI_eq, eqM_eq, neM_eq, inM_eq, notInM_eq, andM_2, orM_2, notM_ss, iteM_ss, lenL_eq, cutM_eq, listM_eq, allM_eq, someM_ss, noneM_eq, revM_eq, consM_eq, minI_eq, maxI_eq, mk2_eq, mk3_eq, mk4_eq, anyM_eq, one1_eq, Bool.not_true, Bool.not_false, line_b (show (b.getD i []).length ≤ 1000 by omega) this.2]
      cases veB (b.getD i []) <;> rfl
  · rw [if_neg hr, dec_ff hr]
    rfl
theorem beg_alk (x y : List Str) : (decide (y.take x.length = x) || decide (x.take y.length = y)) = alk x y := by
  unfold alk
  rw [Bool.eq_iff_iff, Bool.or_eq_true, decide_eq_true_iff, decide_eq_true_iff, decide_eq_true_iff]
  by_cases h : x.length ≤ y.length
  · rw [Nat.min_eq_left h, List.take_of_length_le (Nat.le_refl x.length)]
    constructor
    · rintro (e | e)
      · exact e.symm
      · rw [List.take_of_length_le h] at e
        rw [e, List.take_of_length_le (Nat.le_refl _)]
    · intro e; exact .inl e.symm
  · rw [Nat.min_eq_right (by omega), List.take_of_length_le (Nat.le_refl y.length)]
    constructor
    · rintro (e | e)
      · rw [List.take_of_length_le (by omega)] at e
        rw [e, List.take_of_length_le (Nat.le_refl _)]
      · exact e
    · intro e; exact .inr e
theorem rows_x {b : BL} {N L : Nat} (hN : N ≤ 100000) (hL : L ≤ 1000) (hb : Bz N L b) : f_check_rows_x b = some (badX b) := by
  have h1 := hb.1
  have at_ : ∀ k : Nat, k < b.length → atI b (k : Int) = some (b.getD k []) := fun k hk => by rw [atI_ok (z := []) (by omega) (by omega)]; rfl
  have mem : ∀ k : Nat, k < b.length → b.getD k [] ∈ b := fun k hk => getD_mem hk
  unfold f_check_rows_x badX
  simp only [c1, c2, c3, c4, c5, cmap, cbind, cnx, crt, cfin, cfinN, cfinR, cfinO, cfinP, cexn, cfinX, cfinXe, cfinXn, cfinXr, cfinXx, addI_eq, subI_eq, negI_eq, ltI_eq, leI_eq, gtI_eq, geI_eq, eqM_eq, neM_eq, inM_eq, notInM_eq, andM_2, orM_2, notM_ss, iteM_ss, lenL_eq, cutM_eq, listM_eq, allM_eq, someM_ss, noneM_eq, revM_eq, consM_eq, minI_eq, maxI_eq, mk2_eq, mk3_eq, mk4_eq, anyM_eq, one1_eq, Bool.not_true, Bool.not_false, chI]
  rw [show decide ((1 : Int) ≤ (b.length : Int)) = decide (1 ≤ b.length) by congr 1; simp; omega, show decide ((b.length : Int) ≤ 40) = decide (b.length ≤ 40) by congr 1; simp; omega]
  by_cases hr : 1 ≤ b.length ∧ b.length ≤ 40
  · rw [if_pos hr, decide_eq_true hr.1, decide_eq_true hr.2, rngM_ok (by omega) (by omega)]
    unfold enumM
    rw [enum_map b []]
    simp only [c1, c2, c3, c4, c5, cmap, cbind, cnx, crt, cfin, cfinN, cfinR, cfinO, cfinP, cexn, cfinX, cfinXe, cfinXn, cfinXr, cfinXx, addI_eq, subI_eq, negI_eq, ltI_eq, leI_eq, gtI_eq, geI_eq, eqM_eq, neM_eq, inM_eq, notInM_eq, andM_2, orM_2, notM_ss, iteM_ss, lenL_eq, cutM_eq, listM_eq, allM_eq, someM_ss, noneM_eq, revM_eq, consM_eq, minI_eq, maxI_eq, mk2_eq, mk3_eq, mk4_eq, anyM_eq, one1_eq, Bool.not_true, Bool.not_false, Bool.and_self, Bool.not_true, Bool.false_eq_true, if_false]
    rw [show ((b.length : Int)).toNat = b.length from rfl]
    rw [loop1 (k := fun k : Nat => (⟨(k : Int), b.getD k []⟩ : P2 Int (List Str))) (fun i => .ex ⟨"BadVerse", [("row", (i : Int))]⟩) (fun i s z => by cases z) fun i hi => ?_]
    · cases row1 b with
      | some i => rfl
      | none =>
        simp only [Option.map_none, Option.getD_none, c1, c2, c3, c4, c5, cmap, cbind, cnx, crt, cfin, cfinN, cfinR, cfinO, cfinP, cexn, cfinX, cfinXe, cfinXn, cfinXr, cfinXx, addI_eq, subI_eq, negI_eq, ltI_eq, leI_eq, gtI_eq, geI_eq, eqM_eq, neM_eq, inM_eq, notInM_eq, andM_2, orM_2, notM_ss, iteM_ss, lenL_eq, cutM_eq, listM_eq, allM_eq, someM_ss, noneM_eq, revM_eq, consM_eq, minI_eq, maxI_eq, mk2_eq, mk3_eq, mk4_eq, anyM_eq, one1_eq, Bool.not_true, Bool.not_false]
        rw [loop2 (I := fun x7 x13 s12 => (bindF (S1 := Unit) (iteM (orM (b2 f_begins (atI b x13) (atI b x7)) (b2 f_begins (atI b x7) (atI b x13))) (some (Fl.ex ⟨"Alike", [("other", x7), ("one", x13)]⟩)) (some (Fl.nx ()))) fun s15 => some (Fl.nx ()))) (fun i j => .ex ⟨"Alike", [("other", (j : Int)), ("one", (i : Int))]⟩) (fun i j s z => by cases z) (fun j hj => ?_) fun i j hi hj => ?_]
        · cases pair2 b with
          | some p => rfl
          | none => rfl
        · rw [rngM_ok (by omega) (by omega)]
          rfl
        · rw [at_ i (by omega), at_ j hj]
          simp only [c1, c2, c3, c4, c5, cmap, cbind, cnx, crt, cfin, cfinN, cfinR, cfinO, cfinP, cexn, cfinX, cfinXe, cfinXn, cfinXr, cfinXx, addI_eq, subI_eq, negI_eq, ltI_eq, leI_eq, gtI_eq, geI_eq, eqM_eq, neM_eq, inM_eq, notInM_eq, andM_2, orM_2, notM_ss, iteM_ss, lenL_eq, cutM_eq, listM_eq, allM_eq, someM_ss, noneM_eq, revM_eq, consM_eq, minI_eq, maxI_eq, mk2_eq, mk3_eq, mk4_eq, anyM_eq, one1_eq, Bool.not_true, Bool.not_false, begins_eq, beg_alk]
          cases alk (b.getD i []) (b.getD j []) <;> rfl
    · have := hb.2 _ (mem i hi)
      simp only [c1, c2, c3, c4, c5, cmap, cbind, cnx, crt, cfin, cfinN, cfinR, cfinO, cfinP, cexn, cfinX, cfinXe, cfinXn, cfinXr, cfinXx, addI_eq, subI_eq, negI_eq, ltI_eq, leI_eq, gtI_eq, geI_eq, eqM_eq, neM_eq, inM_eq, notInM_eq, andM_2, orM_2, notM_ss, iteM_ss, lenL_eq, cutM_eq, listM_eq, allM_eq, someM_ss, noneM_eq, revM_eq, consM_eq, minI_eq, maxI_eq, mk2_eq, mk3_eq, mk4_eq, anyM_eq, one1_eq, Bool.not_true, Bool.not_false, ver_b (show (b.getD i []).length ≤ 1000 by omega) this.2]
      cases veB (b.getD i []) <;> rfl
  · rw [if_neg hr, dec_ff hr]
    rfl
def badI (b : BL) : Rs BookT := match badX b with
  | .ok _ => .ok ⟨b⟩
  | .ex e => .ex e
theorem init_x {b : BL} {N L : Nat} (hN : N ≤ 100000) (hL : L ≤ 1000) (hb : Bz N L b) : f_Book___init___x b = some (badI b) := by
  have h1 := hb.1
  unfold f_Book___init___x badI
  rw [c1 (g := f_check_rows_x), rows_x hN hL hb]
  cases badX b with
  | ok u =>
    have e : lcM (fun x1 : List Str => lcE (some true) (b1 listM (some x1))) b = some b := by
      rw [lc_map (me := fun x1 : List Str => b1 listM (some x1)) (fun x => x) (by omega) fun x _ => rfl, List.map_id']
    rw [xbO, c1 (a := b), e]
    rfl
  | ex e => rw [xbE]; rfl
theorem why_ok {b : BL} {N L : Nat} (hN : N ≤ 100000) (hL : L ≤ 1000) (hb : Bz N L b) : f_law_why_book b = some (badP b) := by
  unfold f_law_why_book
  rw [c1 (g := f_Book___init___x), init_x hN hL hb]
  unfold badI badX badP
  by_cases hr : 1 ≤ b.length ∧ b.length ≤ 40
  · rw [if_pos hr, if_pos hr]
    cases row1 b with
    | some i => rfl
    | none =>
      cases pair2 b with
      | some p => rfl
      | none => rfl
  · rw [if_neg hr, if_neg hr]
    rfl
theorem Bz.mono {N M L K : Nat} {b : BL} (h : Bz N L b) (h1 : N ≤ M) (h2 : L ≤ K) : Bz M K b := ⟨Nat.le_trans h.1 h1, fun v hv => ⟨Nat.le_trans (h.2 v hv).1 h2, (h.2 v hv).2⟩⟩
/-- a line put in -/
theorem put_bz {N L : Nat} {b : BL} (h : Bz N L b) (hN : N ≤ 50000) {l : List Str} (h1 : l.length ≤ L + 9) (h2 : ∀ z ∈ l, z.cps.size ≤ 4) {a : Int} (a0 : 0 ≤ a) : ∃ w, b2 catM (b2 catM (some (cutD b none (some a))) (some [l])) (some (cutD b (some a) none)) = some w ∧ Bz (2 * N + 1) (L + 9) w ∧ w ≠ [] := by
  have hl := h.1
  rw [cutD_to _ a0, cutD_from _ a0]
  refine ⟨b.take a.toNat ++ [l] ++ b.drop a.toNat, ?_, ⟨?_, fun v hv => ?_⟩, by simp⟩
  · rw [c2, catM_ok (by rw [List.length_take]; simp; omega), c2, catM_ok (by rw [List.length_append, List.length_take, List.length_drop]; simp; omega)]
  · rw [List.length_append, List.length_append, List.length_take, List.length_drop]; simp; omega
  · rcases List.mem_append.mp hv with hv | hv
    · rcases List.mem_append.mp hv with hv | hv
      · have := h.2 v (List.mem_of_mem_take hv)
        exact ⟨by omega, this.2⟩
      · rw [List.mem_singleton.mp hv]; exact ⟨h1, h2⟩
    · have := h.2 v (List.mem_of_mem_drop hv)
      exact ⟨by omega, this.2⟩
theorem spoilt_ok {N L : Nat} {b : BL} (hN : N ≤ 50000) (hL : L ≤ 900) (hb : Bz N L b) (ne : b ≠ []) {d : List Int} (hd : Nm 5 d) : ∃ w, f_law_spoilt_book b d = some w ∧ Bz (2 * N + 1) (L + 9) w ∧ w ≠ [] := by
  have hl := hb.1
  have l0 := List.length_pos_iff.mpr ne
  unfold f_law_spoilt_book
  have a0 := Int.emod_nonneg (gI d (Int.toNat 1)) (show ((b.length : Int) + 1) ≠ 0 by omega)
  have q0 := Int.emod_nonneg (gI d (Int.toNat 2)) (show (b.length : Int) ≠ 0 by omega)
  have q1 := Int.emod_lt_of_pos (gI d (Int.toNat 2)) (show (0 : Int) < (b.length : Int) by omega)
  simp only [c1, c2, c3, c4, c5, cmap, cbind, cnx, crt, cfin, cfinN, cfinR, cfinO, cfinP, cexn, cfinX, cfinXe, cfinXn, cfinXr, cfinXx, addI_eq, subI_eq, negI_eq, ltI_eq, leI_eq, gtI_eq, geI_eq, eqM_eq, neM_eq, inM_eq, notInM_eq, andM_2, orM_2, notM_ss, iteM_ss, lenL_eq, cutM_eq, listM_eq, allM_eq, someM_ss, noneM_eq, revM_eq, consM_eq, minI_eq, maxI_eq, mk2_eq, mk3_eq, mk4_eq, anyM_eq, one1_eq, Bool.not_true, Bool.not_false, atI_nm hd (show (0 : Int) ≤ 0 by omega) (by omega), atI_nm hd (show (0 : Int) ≤ 1 by omega) (by omega), atI_nm hd (show (0 : Int) ≤ 2 by omega) (by omega), atI_nm hd (show (0 : Int) ≤ 3 by omega) (by omega), atI_nm hd (show (0 : Int) ≤ 4 by omega) (by omega), modI_pos (show (0 : Int) < (b.length : Int) + 1 by omega), modI_pos (show (0 : Int) < (b.length : Int) by omega), modI_pos (show (0 : Int) < 6 by omega), modI_pos (show (0 : Int) < 9 by omega), modI_pos (show (0 : Int) < 3 by omega), modI_pos (show (0 : Int) < 4 by omega), atI_ok (z := ([] : List Str)) q0 q1]
  generalize gI d (Int.toNat 1) % ((b.length : Int) + 1) = at_ at a0
  have hv := hb.2 _ (getD_mem (xs := b) (z := []) (i := (gI d (Int.toNat 2) % (b.length : Int)).toNat) (by omega))
  generalize b.getD (gI d (Int.toNat 2) % (b.length : Int)).toNat [] = line at hv
  have hm0 : (0 : Int) < (if (line.length : Int) > 1 then (line.length : Int) else 1) := by split <;> omega
  rw [modI_pos hm0]
  have here0 := Int.emod_nonneg (gI d (Int.toNat 3)) (Int.ne_of_gt hm0)
  generalize gI d (Int.toNat 3) % (if (line.length : Int) > 1 then (line.length : Int) else 1) = here at here0
  have k9 := Int.emod_nonneg (gI d (Int.toNat 4)) (show (9 : Int) ≠ 0 by omega)
  have k9' := Int.emod_lt_of_pos (gI d (Int.toNat 4)) (show (0 : Int) < 9 by omega)
  have k3 := Int.emod_nonneg (gI d (Int.toNat 4)) (show (3 : Int) ≠ 0 by omega)
  have k4 := Int.emod_nonneg (gI d (Int.toNat 4)) (show (4 : Int) ≠ 0 by omega)
  have k4' := Int.emod_lt_of_pos (gI d (Int.toNat 4)) (show (0 : Int) < 4 by omega)
  generalize gI d (Int.toNat 4) % 9 = r9 at k9 k9'
  generalize gI d (Int.toNat 4) % 3 = r3 at k3
  generalize gI d (Int.toNat 4) % 4 = r4 at k4 k4'
  have m0 := Int.emod_nonneg (gI d (Int.toNat 0)) (show (6 : Int) ≠ 0 by omega)
  have m6 := Int.emod_lt_of_pos (gI d (Int.toNat 0)) (show (0 : Int) < 6 by omega)
  generalize gI d (Int.toNat 0) % 6 = m at m0 m6
  rw [c1 (a := here)]
  have tk : ∀ (n : Nat) (z : Str), z ∈ line.take n → z.cps.size ≤ 4 := fun n z hz => hv.2 z (List.mem_of_mem_take hz)
  have done : ∀ {l : List Str}, l.length ≤ L + 9 → (∀ z ∈ l, z.cps.size ≤ 4) → ∃ w, b2 catM (b2 catM (some (cutD b none (some at_))) (some [l])) (some (cutD b (some at_) none)) = some w ∧ Bz (2 * N + 1) (L + 9) w ∧ w ≠ [] := fun h1 h2 => put_bz hb hN h1 h2 a0
  have hm : m = 0 ∨ m = 1 ∨ m = 2 ∨ m = 3 ∨ m = 4 ∨ m = 5 := by omega
  rcases hm with rfl | rfl | rfl | rfl | rfl | rfl
  · rw [decide_eq_true (show (0 : Int) = 0 from rfl), if_pos rfl, shortM_ok (by decide), c2 (g := atI)]
    obtain ⟨odd, eo, ho⟩ : ∃ z, atI ([("" : Str), "abcd", "A", "a b", "-", "a1", " a", "ab\n", "aB"] : List Str) r9 = some z ∧ z.cps.size ≤ 4 := by
      have all : ∀ z ∈ ([("" : Str), "abcd", "A", "a b", "-", "a1", " a", "ab\n", "aB"] : List Str), z.cps.size ≤ 4 := by decide +kernel
      have l9 : ([("" : Str), "abcd", "A", "a b", "-", "a1", " a", "ab\n", "aB"] : List Str).length = 9 := rfl
      generalize ([("" : Str), "abcd", "A", "a b", "-", "a1", " a", "ab\n", "aB"] : List Str) = odds at all l9
      exact ⟨_, atI_ok (xs := odds) (z := "") k9 (by omega), all _ (getD_mem (xs := odds) (by omega))⟩
    rw [eo, c1, shortM_ok (by simp), cutD_to _ here0, cutD_from _ (show (0 : Int) ≤ here + 1 by omega), c2 (a := line.take here.toNat), catM_ok (by rw [List.length_take]; simp; omega), c2, catM_ok (by rw [List.length_append, List.length_take, List.length_drop]; simp; omega), c1, shortM_ok (by simp)]
    obtain ⟨w, e, h⟩ := done (l := line.take here.toNat ++ [odd] ++ line.drop (here + 1).toNat) (by rw [List.length_append, List.length_append, List.length_take, List.length_drop]; simp; omega) (fun z hz => by
      rcases List.mem_append.mp hz with hz | hz
      · rcases List.mem_append.mp hz with hz | hz
        · exact tk _ z hz
        · rw [List.mem_singleton.mp hz]; exact ho
      · exact hv.2 z (List.mem_of_mem_drop hz))
    rw [e]
    exact ⟨w, rfl, h⟩
  · rw [decide_eq_false (show ¬ (1 : Int) = 0 by omega), if_neg Bool.false_ne_true, cnx, decide_eq_true (show (1 : Int) = 1 from rfl), if_pos rfl, shortM_ok (by simp), cutD_to line here0]
    obtain ⟨w, e, h⟩ := done (l := line.take here.toNat) (by rw [List.length_take]; omega) (tk _)
    rw [e]
    exact ⟨w, rfl, h⟩
  · rw [decide_eq_false (show ¬ (2 : Int) = 0 by omega), if_neg Bool.false_ne_true, cnx, decide_eq_false (show ¬ (2 : Int) = 1 by omega), if_neg Bool.false_ne_true, cnx, decide_eq_true (show (2 : Int) = 2 from rfl), if_pos rfl]
    have er : repM ("a" : Str) r9 = some (List.replicate r9.toNat ("a" : Str)) := by unfold repM; rw [if_pos ⟨k9, by omega⟩]
    rw [er, c2 (a := line), catM_ok (by rw [List.length_replicate]; omega), c2 (g := consM), consM_eq, c1 (g := shortM), shortM_ok (by simp)]
    obtain ⟨w, e, h⟩ := done (l := line ++ List.replicate r9.toNat ("a" : Str)) (by rw [List.length_append, List.length_replicate]; omega) (fun z hz => by
      rcases List.mem_append.mp hz with hz | hz
      · exact hv.2 z hz
      · rw [(List.mem_replicate.mp hz).2]; decide)
    rw [e]
    exact ⟨w, rfl, h⟩
  · rw [decide_eq_false (show ¬ (3 : Int) = 0 by omega), if_neg Bool.false_ne_true, cnx, decide_eq_false (show ¬ (3 : Int) = 1 by omega), if_neg Bool.false_ne_true, cnx, decide_eq_false (show ¬ (3 : Int) = 2 by omega), if_neg Bool.false_ne_true, cnx, decide_eq_true (show (3 : Int) = 3 from rfl), if_pos rfl]
    rw [shortM_ok (xs := ([("zzz" : Str), "q"] : List Str)) (by simp), c3 (g := cutM), cutM_eq, cutD_to _ k3, cutD_to line here0, c2 (a := line.take here.toNat), catM_ok (by rw [List.length_take, List.length_take]; simp; omega), c2 (g := consM), consM_eq, c1 (g := shortM), shortM_ok (by simp)]
    obtain ⟨w, e, h⟩ := done (l := line.take here.toNat ++ ([("zzz" : Str), "q"] : List Str).take r3.toNat) (by rw [List.length_append, List.length_take, List.length_take]; simp; omega) (fun z hz => by
      rcases List.mem_append.mp hz with hz | hz
      · exact tk _ z hz
      · have all : ∀ z ∈ ([("zzz" : Str), "q"] : List Str), z.cps.size ≤ 4 := by decide +kernel
        exact all z (List.mem_of_mem_take hz))
    rw [e]
    exact ⟨w, rfl, h⟩
  · rw [decide_eq_false (show ¬ (4 : Int) = 0 by omega), if_neg Bool.false_ne_true, cnx, decide_eq_false (show ¬ (4 : Int) = 1 by omega), if_neg Bool.false_ne_true, cnx, decide_eq_false (show ¬ (4 : Int) = 2 by omega), if_neg Bool.false_ne_true, cnx, decide_eq_false (show ¬ (4 : Int) = 3 by omega), if_neg Bool.false_ne_true, cnx, decide_eq_true (show (4 : Int) = 4 from rfl), if_pos rfl]
    have er : mulSM ("q" : Str) (1 + r4) = some ⟨(List.replicate (1 + r4).toNat 113).toArray⟩ := by
      show (if 1 ≤ 1 + r4 ∧ 1 + r4 ≤ 1000 then some (⟨(List.replicate (1 + r4).toNat 113).toArray⟩ : Str) else none) = _
      rw [if_pos ⟨by omega, by omega⟩]
    rw [er, c2 (g := consM), consM_eq, c2 (g := consM), consM_eq, c1 (g := shortM), shortM_ok (by simp), c2 (g := consM), consM_eq, c1 (g := shortM), shortM_ok (by simp)]
    obtain ⟨w, e, h⟩ := done (l := ["zz", ⟨(List.replicate (1 + r4).toNat 113).toArray⟩]) (by simp) (fun z hz => by
      simp only [List.mem_cons, List.not_mem_nil, or_false] at hz
      rcases hz with rfl | rfl
      · decide
      · show ((List.replicate (1 + r4).toNat 113).toArray).size ≤ 4
        simp; omega)
    rw [e]
    exact ⟨w, rfl, h⟩
  · rw [decide_eq_false (show ¬ (5 : Int) = 0 by omega), if_neg Bool.false_ne_true, cnx, decide_eq_false (show ¬ (5 : Int) = 1 by omega), if_neg Bool.false_ne_true, cnx, decide_eq_false (show ¬ (5 : Int) = 2 by omega), if_neg Bool.false_ne_true, cnx, decide_eq_false (show ¬ (5 : Int) = 3 by omega), if_neg Bool.false_ne_true, cnx, decide_eq_false (show ¬ (5 : Int) = 4 by omega), if_neg Bool.false_ne_true, cnx]
    rw [lc_map (fun x : List Str => [("qq" : Str)] ++ x.take 1) (by omega) fun x hx => by
      rw [shortM_ok (by simp), cutD_to _ (show (0 : Int) ≤ 1 by omega), c2, catM_ok (by rw [List.length_take]; simp; omega)]
      rfl]
    rw [c2 (a := b), catM_ok (by rw [List.length_map]; omega)]
    refine ⟨_, rfl, ⟨by rw [List.length_append, List.length_map]; omega, fun v hv' => ?_⟩, by simp [ne]⟩
    rcases List.mem_append.mp hv' with h | h
    · have := hb.2 v h
      exact ⟨by omega, this.2⟩
    · obtain ⟨x, hx, rfl⟩ := List.mem_map.mp h
      refine ⟨by rw [List.length_append, List.length_take]; simp; omega, fun z hz => ?_⟩
      rcases List.mem_append.mp hz with hz | hz
      · rw [List.mem_singleton.mp hz]; decide
      · exact (hb.2 x hx).2 z (List.mem_of_mem_take hz)
theorem law_true (ns : List Int) (hn : ns.length ≤ 63) : f_law ns = some true := by
  suffices h : ∃ b, f_law ns = some b ∧ b = true by obtain ⟨b, e, rfl⟩ := h; exact e
  unfold f_law
  obtain ⟨d, ed, hd⟩ := numbers_ok (m := 290) hn (by omega)
  rw [show ((290 : Nat) : Int) = 290 from rfl] at ed
  have q0 := Int.emod_nonneg (gI d (Int.toNat 1)) (show (4 : Int) ≠ 0 by omega)
  have q1 := Int.emod_lt_of_pos (gI d (Int.toNat 1)) (show (0 : Int) < 4 by omega)
  simp only [c1, c2, c3, c4, c5, cmap, cbind, cnx, crt, cfin, cfinN, cfinR, cfinO, cfinP, cexn, cfinX, cfinXe, cfinXn, cfinXr, cfinXx, addI_eq, subI_eq, negI_eq, ltI_eq, leI_eq, gtI_eq, geI_eq, eqM_eq, neM_eq, inM_eq, notInM_eq, andM_2, orM_2, notM_ss, iteM_ss, lenL_eq, cutM_eq, listM_eq, allM_eq, someM_ss, noneM_eq, revM_eq, consM_eq, minI_eq, maxI_eq, mk2_eq, mk3_eq, mk4_eq, anyM_eq, one1_eq, Bool.not_true, Bool.not_false, ed, atI_nm hd (show (0 : Int) ≤ 0 by omega) (by omega), atI_nm hd (show (0 : Int) ≤ 1 by omega) (by omega), atI_nm hd (show (0 : Int) ≤ 2 by omega) (by omega), modI_pos (show (0 : Int) < 3 by omega), modI_pos (show (0 : Int) < 4 by omega), modI_pos (show (0 : Int) < 19 by omega)]
  rw [shortM_ok (xs := ([5, 12, 40] : List Int)) (by decide), rngM_ok (j := gI d (Int.toNat 1) % 4) (by omega) (by omega)]
  simp only [c1, c2, c3, c4, c5, cmap, cbind, cnx, crt, cfin, cfinN, cfinR, cfinO, cfinP, cexn, cfinX, cfinXe, cfinXn, cfinXr, cfinXx, addI_eq, subI_eq, negI_eq, ltI_eq, leI_eq, gtI_eq, geI_eq, eqM_eq, neM_eq, inM_eq, notInM_eq, andM_2, orM_2, notM_ss, iteM_ss, lenL_eq, cutM_eq, listM_eq, allM_eq, someM_ss, noneM_eq, revM_eq, consM_eq, minI_eq, maxI_eq, mk2_eq, mk3_eq, mk4_eq, anyM_eq, one1_eq, Bool.not_true, Bool.not_false]
  obtain ⟨m, em, m1, m2⟩ := pick3 (a := 5) (b := 12) (c := 40) (gI d 0)
  rw [show Int.toNat 0 = 0 from rfl, show ([5, 12, 40] : List Int) = [((5 : Nat) : Int), ((12 : Nat) : Int), ((40 : Nat) : Int)] from rfl, em]
  simp only [c1, c2, c3, c4, c5, cmap, cbind, cnx, crt, cfin, cfinN, cfinR, cfinO, cfinP, cexn, cfinX, cfinXe, cfinXn, cfinXr, cfinXx, addI_eq, subI_eq, negI_eq, ltI_eq, leI_eq, gtI_eq, geI_eq, eqM_eq, neM_eq, inM_eq, notInM_eq, andM_2, orM_2, notM_ss, iteM_ss, lenL_eq, cutM_eq, listM_eq, allM_eq, someM_ss, noneM_eq, revM_eq, consM_eq, minI_eq, maxI_eq, mk2_eq, mk3_eq, mk4_eq, anyM_eq, one1_eq, Bool.not_true, Bool.not_false]
  rw [cutD_from (n := 20) _ (by omega)]
  obtain ⟨b, eb, hb⟩ := book_drawn (m := m) (d := d.drop (20 : Int).toNat) (by omega) (by omega) ((hd.drop 20).mono (by omega))
  rw [eb]
  have hb0 : Bz 40 8 b := ⟨by have := hb.2.1; omega, fun v hv => ⟨(hb.2.2.1 v hv).2.1, fun z hz => by have := ((hb.2.2.1 v hv).2.2 z hz).2.1; omega⟩⟩
  have ne0 : b ≠ [] := List.length_pos_iff.mp hb.1
  simp only [c1, c2, c3, c4, c5, cmap, cbind, cnx, crt, cfin, cfinN, cfinR, cfinO, cfinP, cexn, cfinX, cfinXe, cfinXn, cfinXr, cfinXx, addI_eq, subI_eq, negI_eq, ltI_eq, leI_eq, gtI_eq, geI_eq, eqM_eq, neM_eq, inM_eq, notInM_eq, andM_2, orM_2, notM_ss, iteM_ss, lenL_eq, cutM_eq, listM_eq, allM_eq, someM_ss, noneM_eq, revM_eq, consM_eq, minI_eq, maxI_eq, mk2_eq, mk3_eq, mk4_eq, anyM_eq, one1_eq, Bool.not_true, Bool.not_false]
  have fin : ∀ c : BL, Bz 5000 100 c → ∃ d, finF (S := Unit) (b1 (fun h => b1 (fun r => some (Fl.rt r)) (andM (b2 sameM (f_law_why_book h) (f_law_book_bad c)) (some (decide (h = c))))) (f_law_copy c)) = some d ∧ d = true := by
    intro c hc
    rw [copy_eq (by have := hc.1; omega), c1, why_ok (by omega) (by omega) hc, bad_ok (by omega) (by omega) hc, c2]
    have sm : sameM (badP c) (badP c) = some true := by
      have : small (en (badP c)) = true := by
        unfold badP
        split
        · split
          · rfl
          · split <;> rfl
        · rfl
      unfold sameM; rw [if_pos this, decide_eq_true rfl]
    rw [sm, decide_eq_true rfl]
    exact ⟨true, rfl, rfl⟩
  refine for_fin (fun i s => s ≠ [] ∧ Bz (50 * 3 ^ i) (8 + 9 * i) s) ⟨ne0, hb0.mono (by omega) (by omega)⟩ ?_ ?_
  · rintro i x s hi ⟨n1, hs⟩
    have hi' := List.getElem?_eq_some_iff.mp hi
    have hx : i < 3 ∧ x = (i : Int) := by
      obtain ⟨h1, h2⟩ := hi'
      rw [List.length_map, List.length_range] at h1
      refine ⟨by omega, ?_⟩
      rw [← h2]; simp
    obtain ⟨hi3, rfl⟩ := hx
    rw [mulI_l (by omega) (by omega)]
    simp only [c1, c2, c3, c4, c5, cmap, cbind, cnx, crt, cfin, cfinN, cfinR, cfinO, cfinP, cexn, cfinX, cfinXe, cfinXn, cfinXr, cfinXx, addI_eq, subI_eq, negI_eq, ltI_eq, leI_eq, gtI_eq, geI_eq, eqM_eq, neM_eq, inM_eq, notInM_eq, andM_2, orM_2, notM_ss, iteM_ss, lenL_eq, cutM_eq, listM_eq, allM_eq, someM_ss, noneM_eq, revM_eq, consM_eq, minI_eq, maxI_eq, mk2_eq, mk3_eq, mk4_eq, anyM_eq, one1_eq, Bool.not_true, Bool.not_false]
    rw [cutD_from (n := 3 + 5 * (i : Int)) _ (by omega)]
    have p27 : 3 ^ i ≤ 27 := Nat.le_trans (Nat.pow_le_pow_right (by omega) (show i ≤ 3 by omega)) (by decide)
    have p1 : 1 ≤ 3 ^ i := Nat.one_le_pow _ _ (by omega)
    obtain ⟨w, ew, hw, nw⟩ := spoilt_ok (by omega) (by omega) hs n1 (d := d.drop (3 + 5 * (i : Int)).toNat) ((hd.drop _).mono (by omega))
    rw [ew]
    refine ⟨w, rfl, nw, hw.mono ?_ (by omega)⟩
    rw [Nat.pow_succ]
    omega
  · rintro s ⟨n1, hs⟩
    have hl : ((List.range (gI d (Int.toNat 1) % 4).toNat).map fun n : Nat => (n : Int)).length ≤ 3 := by rw [List.length_map, List.length_range]; omega
    generalize ((List.range (gI d (Int.toNat 1) % 4).toNat).map fun n : Nat => (n : Int)).length = j at hl hs
    have p27 : 3 ^ j ≤ 27 := Nat.le_trans (Nat.pow_le_pow_right (by omega) hl) (by decide)
    by_cases h : gI d (Int.toNat 2) % 19 = 18
    · rw [decide_eq_true h, shortM_ok (by simp)]
      exact fin [] ⟨by simp, fun v hv => by cases hv⟩
    · rw [decide_eq_false h]
      exact fin s (hs.mono (by omega) (by omega))
end Kj

set_option Elab.async false
set_option linter.all false
set_option maxRecDepth 100000
set_option maxHeartbeats 4000000
namespace Kj
open PySem L2
def topS (i : Nat) : Stmt := PySem.Challenge.pw_kimariji_k04_books_refused.main.body.getD i (.Pass ⟨0, 0, 0, 0⟩)
structure Txt (K : PySem.W.Frag) (mg : Str → Option Value) : Prop where
  b_all : mg "all" = none
  b_bool : mg "bool" = none
  b_enumerate : mg "enumerate" = none
  b_int : mg "int" = none
  b_isinstance : mg "isinstance" = none
  b_len : mg "len" = none
  b_list : mg "list" = none
  b_max : mg "max" = none
  b_min : mg "min" = none
  b_range : mg "range" = none
  b_str : mg "str" = none
  b_tuple : mg "tuple" = none
  b_zip : mg "zip" = none
  g_MOST_LETTERS : ∃ t, mg "MOST_LETTERS" = some (.int 3 t)
  g_MOST_SYLLABLES : ∃ t, mg "MOST_SYLLABLES" = some (.int 8 t)
  g_MOST_VERSES : ∃ t, mg "MOST_VERSES" = some (.int 40 t)
  c_Book : Cls K (cBook K)
  n_Book_lines : NoAttr K (cBook K) "lines"
  e_BadBook : ExcT K mg "BadBook" (He.ga K "BadBook")
  g_Alike : mg "Alike" = some (.ref (He.ga K "Alike"))
  g_BadBook : mg "BadBook" = some (.ref (He.ga K "BadBook"))
  g_BadVerse : mg "BadVerse" = some (.ref (He.ga K "BadVerse"))
  g_SnatchError : mg "SnatchError" = some (.ref (He.ga K "SnatchError"))
  x_exm : exmB K lxn lxc = true
  x_Alike : ExF K (He.ga K "Alike") ["one", "other"]
  x_BadVerse : ExF K (He.ga K "BadVerse") ["row"]
abbrev s_law_numbers : Stmt := topS 17
theorem sc_law_numbers : FnScope ["_law_script", "_law_many", "_law_row", "_law_seed", "_law_cell", "_law_rest", "_law_k"] ["_law_script", "_law_many"] (defScope s_law_numbers) := ⟨rfl, rfl, rfl, by decide +kernel, rfl, by decide +kernel, by decide +kernel⟩
abbrev s_law_same : Stmt := topS 18
theorem sc_law_same : FnScope ["_law_found", "_law_due", "_law_one", "_law_other"] ["_law_found", "_law_due"] (defScope s_law_same) := ⟨rfl, rfl, rfl, by decide +kernel, rfl, by decide +kernel, by decide +kernel⟩
abbrev s_law_sound : Stmt := topS 19
theorem sc_law_sound : FnScope ["_law_number", "_law_letters", "_law_k"] ["_law_number"] (defScope s_law_sound) := ⟨rfl, rfl, rfl, by decide +kernel, rfl, by decide +kernel, by decide +kernel⟩
abbrev s_law_pool : Stmt := topS 20
theorem sc_law_pool : FnScope ["_law_d", "_law_k"] ["_law_d"] (defScope s_law_pool) := ⟨rfl, rfl, rfl, by decide +kernel, rfl, by decide +kernel, by decide +kernel⟩
abbrev s_law_alike : Stmt := topS 21
theorem sc_law_alike : FnScope ["_law_one", "_law_other", "_law_size"] ["_law_one", "_law_other"] (defScope s_law_alike) := ⟨rfl, rfl, rfl, by decide +kernel, rfl, by decide +kernel, by decide +kernel⟩
abbrev s_law_verse : Stmt := topS 22
theorem sc_law_verse : FnScope ["_law_verses", "_law_pool_here", "_law_d", "_law_line", "_law_ahead", "_law_k"] ["_law_verses", "_law_pool_here", "_law_d"] (defScope s_law_verse) := ⟨rfl, rfl, rfl, by decide +kernel, rfl, by decide +kernel, by decide +kernel⟩
abbrev s_law_wide : Stmt := topS 23
theorem sc_law_wide : FnScope ["_law_d", "_law_size", "_law_verses", "_law_k", "_law_at", "_law_line"] ["_law_d", "_law_size"] (defScope s_law_wide) := ⟨rfl, rfl, rfl, by decide +kernel, rfl, by decide +kernel, by decide +kernel⟩
abbrev s_law_book : Stmt := topS 24
theorem sc_law_book : FnScope ["_law_d", "_law_most", "_law_pool_here", "_law_verses", "_law_k", "_law_line", "_law_one"] ["_law_d", "_law_most"] (defScope s_law_book) := ⟨rfl, rfl, rfl, by decide +kernel, rfl, by decide +kernel, by decide +kernel⟩
abbrev s_law_copy : Stmt := topS 25
theorem sc_law_copy : FnScope ["_law_rows", "_law_row"] ["_law_rows"] (defScope s_law_copy) := ⟨rfl, rfl, rfl, by decide +kernel, rfl, by decide +kernel, by decide +kernel⟩
abbrev s_is_syllable : Stmt := topS 13
theorem sc_is_syllable : FnScope ["text", "letter"] ["text"] (defScope s_is_syllable) := ⟨rfl, rfl, rfl, by decide +kernel, rfl, by decide +kernel, by decide +kernel⟩
abbrev s_is_verse : Stmt := topS 12
theorem sc_is_verse : FnScope ["syllables", "text"] ["syllables"] (defScope s_is_verse) := ⟨rfl, rfl, rfl, by decide +kernel, rfl, by decide +kernel, by decide +kernel⟩
abbrev s_begins : Stmt := topS 14
theorem sc_begins : FnScope ["one", "other"] ["one", "other"] (defScope s_begins) := ⟨rfl, rfl, rfl, by decide +kernel, rfl, by decide +kernel, by decide +kernel⟩
abbrev s_BadVerse___init__ : Stmt := inClass (topS 3) 0
theorem sc_BadVerse___init__ : FnScope ["self", "row"] ["self", "row"] (defScope s_BadVerse___init__) := ⟨rfl, rfl, rfl, by decide +kernel, rfl, by decide +kernel, by decide +kernel⟩
abbrev s_Alike___init__ : Stmt := inClass (topS 4) 0
theorem sc_Alike___init__ : FnScope ["self", "one", "other"] ["self", "one", "other"] (defScope s_Alike___init__) := ⟨rfl, rfl, rfl, by decide +kernel, rfl, by decide +kernel, by decide +kernel⟩
abbrev s_check_rows_x : Stmt := topS 11
theorem sc_check_rows_x : FnScope ["rows", "row", "syllables", "other", "one"] ["rows"] (defScope s_check_rows_x) := ⟨rfl, rfl, rfl, by decide +kernel, rfl, by decide +kernel, by decide +kernel⟩
abbrev s_Book___init___x : Stmt := inClass (topS 10) 0
theorem sc_Book___init___x : FnScope ["self", "verses", "verse"] ["self", "verses"] (defScope s_Book___init___x) := ⟨rfl, rfl, rfl, by decide +kernel, rfl, by decide +kernel, by decide +kernel⟩
abbrev s_law_is_line : Stmt := topS 26
theorem sc_law_is_line : FnScope ["_law_line", "_law_text", "_law_sign"] ["_law_line"] (defScope s_law_is_line) := ⟨rfl, rfl, rfl, by decide +kernel, rfl, by decide +kernel, by decide +kernel⟩
abbrev s_law_book_bad : Stmt := topS 27
theorem sc_law_book_bad : FnScope ["_law_verses", "_law_row", "_law_other", "_law_one"] ["_law_verses"] (defScope s_law_book_bad) := ⟨rfl, rfl, rfl, by decide +kernel, rfl, by decide +kernel, by decide +kernel⟩
abbrev s_law_why_book : Stmt := topS 28
theorem sc_law_why_book : FnScope ["_law_verses", "_law_why", "e"] ["_law_verses"] (defScope s_law_why_book) := ⟨rfl, rfl, rfl, by decide +kernel, rfl, by decide +kernel, by decide +kernel⟩
abbrev s_law_spoilt_book : Stmt := topS 29
theorem sc_law_spoilt_book : FnScope ["_law_verses", "_law_d", "_law_at", "_law_line", "_law_here", "_law_odd", "_law_verse_here"] ["_law_verses", "_law_d"] (defScope s_law_spoilt_book) := ⟨rfl, rfl, rfl, by decide +kernel, rfl, by decide +kernel, by decide +kernel⟩
abbrev s_law : Stmt := topS 30
theorem sc_law : FnScope ["_law_script", "_law_numbers_here", "_law_verses", "_law_k", "_law_handed"] ["_law_script"] (defScope s_law) := ⟨rfl, rfl, rfl, by decide +kernel, rfl, by decide +kernel, by decide +kernel⟩
section
variable {P : Program} {w : World} {K : PySem.W.Frag} {mg : Str → Option Value} {base : Heap} {f : Addr} {fd : FuncData}
theorem ok_law_numbers (F : FnP K "_law_numbers" "_law_numbers" s_law_numbers f fd) (T : Txt K mg) : FnOk P w K mg base CX0 1 f fd ["_law_script", "_law_many"] (spF (sp2 (aE K) (aE K) (aE K) f_law_numbers)) := by
  refine fnN_ok F sc_law_numbers (fun As R h => by obtain ⟨v_law_script, v_law_many, c, rfl, _⟩ := h; rfl) (fun cdv A outer s H E hr => ?_)
  refine ⟨_, (pss_cons (ps_set (i := 2) sc_law_numbers.nd rfl (by first | exact Or.inl rfl | exact Or.inr rfl) (pe_lst pa_nil))
    (pss_cons (ps_set (i := 3) sc_law_numbers.nd rfl (by first | exact Or.inl rfl | exact Or.inr rfl) pe_int)
    (pss_cons (ps_for PassesOwn.never rfl (pi_listK (K := K) rfl (pe_slice (sl_listK (K := K) rfl) (pv 0) po_none (po_some pe_int))) (pg_name (i := 4) sc_law_numbers.nd rfl (by first | exact Or.inl rfl | exact Or.inr rfl)) (pss_cons (ps_set (i := 3) sc_law_numbers.nd rfl (by first | exact Or.inl rfl | exact Or.inr rfl) (pe_op op_mod (pe_op op_add (pe_op op_add (pe_op op_mul (pv 3) pe_int) (pe_op op_mod (pv 4) pe_int)) pe_int) pe_int))
    (pss_cons (ps_set (i := 5) sc_law_numbers.nd rfl (by first | exact Or.inl rfl | exact Or.inr rfl) (pe_op op_sub (pv 4) (pe_op op_pow pe_int pe_int)))
    (pss_cons (ps_if (pt_cmpR op_lt (pv 5) pe_int (nomark _)) (pss_cons (ps_expr (pe_bm PySem.F.plainAttrs_list PySem.F.slot_list_append PySem.F.type_list_append mt_append (pv 2) (pa_cons (pe_op op_mod (pv 4) pe_int) pa_nil)))
    pss_nil) pss_nil)
    (pss_cons (ps_for PassesOwn.never rfl (pi_range1 (by rfl) T.b_range (pa_cons pe_int pa_nil)) (pg_name (i := 6) sc_law_numbers.nd rfl (by first | exact Or.inl rfl | exact Or.inr rfl)) (pss_cons (ps_if (pt_cmpR op_gt (pv 5) pe_int (nomark _)) (pss_cons (ps_expr (pe_bm PySem.F.plainAttrs_list PySem.F.slot_list_append PySem.F.type_list_append mt_append (pv 2) (pa_cons (pe_op op_mod (pv 5) pe_int) pa_nil)))
    (pss_cons (ps_set (i := 5) sc_law_numbers.nd rfl (by first | exact Or.inl rfl | exact Or.inr rfl) (pe_op op_fdiv (pv 5) pe_int))
    pss_nil)) pss_nil)
    pss_nil))
    pss_nil)))))
    (pss_cons (ps_while PassesOwn.never (pt_cmpR op_lt (pe_callB (call_lenK (K := K) rfl) (by rfl) T.b_len (by decide +kernel) (pa_cons (pv 2) pa_nil)) (pv 1) (nomark _)) (pss_cons (ps_set (i := 3) sc_law_numbers.nd rfl (by first | exact Or.inl rfl | exact Or.inr rfl) (pe_op op_mod (pe_op op_add (pe_op op_add (pe_op op_add (pe_op op_mul (pv 3) (pv 3)) (pe_op op_mul pe_int (pv 3))) (pe_op op_mul pe_int (pe_callB (call_lenK (K := K) rfl) (by rfl) T.b_len (by decide +kernel) (pa_cons (pv 2) pa_nil)))) pe_int) pe_int))
    (pss_cons (ps_expr (pe_bm PySem.F.plainAttrs_list PySem.F.slot_list_append PySem.F.type_list_append mt_append (pv 2) (pa_cons (pe_op op_mod (pe_op op_fdiv (pv 3) pe_int) pe_int) pa_nil)))
    pss_nil)))
    (pss_cons (ps_ret (pe_slice (sl_listK (K := K) rfl) (pv 2) po_none (po_some (pv 1)))) pss_nil))))), fun H0 As R hS => ?_⟩
  obtain ⟨v_law_script, v_law_many, c, rfl, h, rfl⟩ := hS
  exact db_fin (B := fun (_ : Unit) => [.no, .no, .no, .no, .no, .no, .no]) (show DB ⟨C0.W, K⟩ H0 [sl false ((aE K) v_law_script), sl false ((aE K) v_law_many), .no, .no, .no, .no, .no] _ (aE K) _ _ from (db_own (α := Int) (i := 2) (fun v_law_row => (db_set (i := 3) (f := true) (Ax := (aE K)) dm_int (fun v_law_seed => (db_for (vs := [4]) (B1 := fun (s1 : (List Int) × Int) => [sl false ((aE K) v_law_script), sl false ((aE K) v_law_many), .own (oE K s1.1), sl true ((aE K) s1.2), .no, .no, .no]) (s0 := (v_law_row, v_law_seed)) (dwm_list (dm_slF (dm_var (A := (aE K)) (f := false) (x := v_law_script) rfl) dom_no (dom_so dm_int))) (.cons .same (.cons .same (.cons .same (.cons .same (.cons .drop (.cons .drop (.cons .drop .nil))))))) (fun x2 s1 => dg_name) (fun x2 s1 => (db_set (i := 3) (f := true) (Ax := (aE K)) (dm_mod (dm_add (dm_add (dm_mul (dm_up (g := true) (dm_var (A := (aE K)) (f := true) (x := s1.2) rfl)) dm_int) (dm_mod (dm_up (g := true) (dm_var (A := (aE K)) (f := true) (x := x2) rfl)) dm_int)) dm_int) dm_int) (fun v_law_seed => (db_set (i := 5) (f := true) (Ax := (aE K)) (dm_sub (dm_up (g := true) (dm_var (A := (aE K)) (f := true) (x := x2) rfl)) (dm_pow dm_int dm_int)) (fun v_law_rest => (db_if (B1 := fun (s8 : (List Int)) => [sl false ((aE K) v_law_script), sl false ((aE K) v_law_many), .own (oE K s8), sl true ((aE K) v_law_seed), sl true ((aE K) x2), sl true ((aE K) v_law_rest), .no]) (dtm_test (dm_cmp (G := ltI) (g := fun i j => decide (i < j)) (dm_up (g := true) (dm_var (A := (aE K)) (f := true) (x := v_law_rest) rfl)) dm_int (fun _ _ => rfl))) (db_app (i := 2) (xs := s1.1) rfl (dm_mod (dm_up (g := true) (dm_var (A := (aE K)) (f := true) (x := x2) rfl)) dm_int) (fun v_law_row => (db_nx (s := v_law_row) (.cons .same (.cons .same (.cons .same (.cons .same (.cons .same (.cons .same (.cons .drop .nil)))))))))) (db_nx (s := s1.1) (.cons .same (.cons .same (.cons .same (.cons .same (.cons .same (.cons .same (.cons .drop .nil)))))))) (fun s8 => (db_for (vs := [6]) (B1 := fun (s9 : (List Int) × Int) => [sl false ((aE K) v_law_script), sl false ((aE K) v_law_many), .own (oE K s9.1), sl true ((aE K) v_law_seed), sl true ((aE K) x2), sl true ((aE K) s9.2), .no]) (s0 := (s8, v_law_rest)) (dwm_rng1 dm_int) (.cons .same (.cons .same (.cons .same (.cons .same (.cons .same (.cons .same (.cons .drop .nil))))))) (fun x10 s9 => dg_name) (fun x10 s9 => (db_if (B1 := fun (s12 : (List Int) × Int) => [sl false ((aE K) v_law_script), sl false ((aE K) v_law_many), .own (oE K s12.1), sl true ((aE K) v_law_seed), sl true ((aE K) x2), sl true ((aE K) s12.2), sl true ((aE K) x10)]) (dtm_test (dm_cmp (G := gtI) (g := fun i j => decide (j < i)) (dm_up (g := true) (dm_var (A := (aE K)) (f := true) (x := s9.2) rfl)) dm_int (fun _ _ => rfl))) (db_app (i := 2) (xs := s9.1) rfl (dm_mod (dm_up (g := true) (dm_var (A := (aE K)) (f := true) (x := s9.2) rfl)) dm_int) (fun v_law_row => (db_set (i := 5) (f := true) (Ax := (aE K)) (dm_div (dm_up (g := true) (dm_var (A := (aE K)) (f := true) (x := s9.2) rfl)) dm_int) (fun v_law_rest => (db_nx (s := (v_law_row, v_law_rest)) (.cons .same (.cons .same (.cons .same (.cons .same (.cons .same (.cons .same (.cons .same .nil)))))))))))) (db_nx (s := (s9.1, s9.2)) (.cons .same (.cons .same (.cons .same (.cons .same (.cons .same (.cons .same (.cons .same .nil)))))))) (fun s12 => (db_nx (s := (s12.1, s12.2)) (.cons .same (.cons .same (.cons .same (.cons .same (.cons .same (.cons .same (.cons .drop .nil))))))))))) (fun s9 => (db_nx (s := (s9.1, v_law_seed)) (.cons .same (.cons .same (.cons .same (.cons .same (.cons .drop (.cons .drop (.cons .drop .nil))))))))))))))))) (fun s1 => (db_while (B1 := fun (s13 : (List Int) × Int) => [sl false ((aE K) v_law_script), sl false ((aE K) v_law_many), .own (oE K s13.1), sl true ((aE K) s13.2), .no, .no, .no]) (s0 := (s1.1, s1.2)) (.cons .same (.cons .same (.cons .same (.cons .same (.cons .drop (.cons .drop (.cons .drop .nil))))))) (fun s13 => (dtm_bor (bo_ownE (K := K) (i := 2) (xs := s13.1) rfl) (dtm_test (dm_cmp (G := ltI) (g := fun i j => decide (i < j)) (dm_len (dm_var (A := (aE K)) (f := true) (x := s13.1) rfl)) (dm_up (g := true) (dm_var (A := (aE K)) (f := false) (x := v_law_many) rfl)) (fun _ _ => rfl))))) (fun s13 => (db_set (i := 3) (f := true) (Ax := (aE K)) (dm_bor (bo_ownE (K := K) (i := 2) (xs := s13.1) rfl) (dm_mod (dm_add (dm_add (dm_add (dm_mul (dm_up (g := true) (dm_var (A := (aE K)) (f := true) (x := s13.2) rfl)) (dm_up (g := true) (dm_var (A := (aE K)) (f := true) (x := s13.2) rfl))) (dm_mul dm_int (dm_up (g := true) (dm_var (A := (aE K)) (f := true) (x := s13.2) rfl)))) (dm_mul dm_int (dm_len (dm_var (A := (aE K)) (f := true) (x := s13.1) rfl)))) dm_int) dm_int)) (fun v_law_seed => (db_app (i := 2) (xs := s13.1) rfl (dm_mod (dm_div (dm_up (g := true) (dm_var (A := (aE K)) (f := true) (x := v_law_seed) rfl)) dm_int) dm_int) (fun v_law_row => (db_nx (s := (v_law_row, v_law_seed)) (.cons .same (.cons .same (.cons .same (.cons .same (.cons .drop (.cons .drop (.cons .drop .nil))))))))))))) (fun s13 => (db_bor (bo_ownE (K := K) (i := 2) (xs := s13.1) rfl) (db_ret (dm_slF (dm_var (A := (aE K)) (f := true) (x := s13.1) rfl) dom_no (dom_so (dm_up (g := true) (dm_var (A := (aE K)) (f := false) (x := v_law_many) rfl))))))))))))))) h
theorem ok_law_same (F : FnP K "_law_same" "_law_same" s_law_same f fd) (T : Txt K mg) (hg : mg "_law_same" = some (.ref f)) : ∀ n, FnOk P w K mg base CX0 n f fd ["_law_found", "_law_due"] (spF (S_same K n))
  | 0 => fnOk_no fun As R ⟨_, _, _, _, _, z, _⟩ => nomatch z
  | n + 1 => by
    have D : DefAt P w K mg base "_law_same" n ["_law_found", "_law_due"] (spF (S_same K n)) := defAt (x := "_law_same") (qual := "_law_same") (st := s_law_same) F hg (ok_law_same F T hg n) fun _ _ _ _ _ _ us hl => match us, hl with | [_, _], _ => rfl
    refine fnD_ok F sc_law_same (fun As R h => by obtain ⟨d, e, rfl, _⟩ := h; rfl) (fun cdv A outer s H E hr As R hS => ?_)
    refine ⟨_, (pss_cons (ps_if (pt_cmp (pc_isN (pv 1)) rfl) (pss_cons (ps_ret (pe_cmp (pc_isN (pv 0)) rfl)) pss_nil) pss_nil)
    (pss_cons (ps_if (pt_val (pe_callB (call_isiTK (K := K) rfl) (by rfl) T.b_isinstance (by decide +kernel) (pa_cons (pv 1) (pa_cons (pe_tup (pa_cons (pe_bltn (v := .ty "list") (by rfl) T.b_list (by decide +kernel) rfl) (pa_cons (pe_bltn (v := .ty "tuple") (by rfl) T.b_tuple (by decide +kernel) rfl) pa_nil))) pa_nil))))
      (pss_cons (ps_if (PW.pt (pw_or (pt_cmpR op_ne (pe_callB (call_isiK (K := K) rfl) (by rfl) T.b_isinstance (by decide +kernel) (pa_cons (pv 0) (pa_cons (pe_bltn (v := .ty "list") (by rfl) T.b_list (by decide +kernel) rfl) pa_nil))) (pe_callB (call_isiK (K := K) rfl) (by rfl) T.b_isinstance (by decide +kernel) (pa_cons (pv 1) (pa_cons (pe_bltn (v := .ty "list") (by rfl) T.b_list (by decide +kernel) rfl) pa_nil))) (nomark _)) (pw_or1 (pt_cmpR op_ne (pe_callB (call_isiK (K := K) rfl) (by rfl) T.b_isinstance (by decide +kernel) (pa_cons (pv 0) (pa_cons (pe_bltn (v := .ty "tuple") (by rfl) T.b_tuple (by decide +kernel) rfl) pa_nil))) (pe_callB (call_isiK (K := K) rfl) (by rfl) T.b_isinstance (by decide +kernel) (pa_cons (pv 1) (pa_cons (pe_bltn (v := .ty "tuple") (by rfl) T.b_tuple (by decide +kernel) rfl) pa_nil))) (nomark _))))) (pss_cons (ps_ret pe_bl) pss_nil) pss_nil)
      (pss_cons (ps_ret (pe_and (pe_cmpR op_eq (pe_callB (call_lenK (K := K) rfl) (by rfl) T.b_len (by decide +kernel) (pa_cons (pv 0) pa_nil)) (pe_callB (call_lenK (K := K) rfl) (by rfl) T.b_len (by decide +kernel) (pa_cons (pv 1) pa_nil)) (nomark _)) (pe_one (pe_callB (cr_allK (K := K) rfl rfl) (by rfl) T.b_all (by decide +kernel) (pa_cons (pe_lc (own := [("_law_one", 2), ("_law_other", 3)]) (g := (gTup K 2 (gCons (gName 2) (gCons (gName 3) gNil)))) (by rfl) sc_law_same.nd (pi_zipAK (K := K) rfl (by rfl) T.b_zip (pa_cons (pv 0) (pa_cons (pv 1) pa_nil))) (blkOk_by (own := [("_law_one", 2), ("_law_other", 3)]) (N := ["_law_found", "_law_due", "_law_one", "_law_other"]) (sc := defScope s_law_same) (by decide +kernel)) (fun _ _ _ _ _ => (pg_tup rfl (pgs_cons (pg_name (i := 2) sc_law_same.nd rfl (by first | exact Or.inl rfl | exact Or.inr rfl)) (pgs_cons (pg_name (i := 3) sc_law_same.nd rfl (by first | exact Or.inl rfl | exact Or.inr rfl)) pgs_nil)))) (fun _ _ _ _ _ => pts_nil) (fun _ _ _ _ _ => (pe_callD D hr (by rfl) (pa_cons (pv 2) (pa_cons (pv 3) pa_nil))))) pa_nil))))) pss_nil)) pss_nil)
    (pss_cons (ps_if (PW.pt (pw_or (pt_cmpR op_ne (pe_callB (call_isiK (K := K) rfl) (by rfl) T.b_isinstance (by decide +kernel) (pa_cons (pv 0) (pa_cons (pe_bltn (v := .ty "bool") (by rfl) T.b_bool (by decide +kernel) rfl) pa_nil))) (pe_callB (call_isiK (K := K) rfl) (by rfl) T.b_isinstance (by decide +kernel) (pa_cons (pv 1) (pa_cons (pe_bltn (v := .ty "bool") (by rfl) T.b_bool (by decide +kernel) rfl) pa_nil))) (nomark _)) (pw_or1 (pt_cmpR op_ne (pe_callB (call_isiK (K := K) rfl) (by rfl) T.b_isinstance (by decide +kernel) (pa_cons (pv 0) (pa_cons (pe_bltn (v := .ty "str") (by rfl) T.b_str (by decide +kernel) rfl) pa_nil))) (pe_callB (call_isiK (K := K) rfl) (by rfl) T.b_isinstance (by decide +kernel) (pa_cons (pv 1) (pa_cons (pe_bltn (v := .ty "str") (by rfl) T.b_str (by decide +kernel) rfl) pa_nil))) (nomark _))))) (pss_cons (ps_ret pe_bl) pss_nil) pss_nil)
    (pss_cons (ps_ret (pe_and (pe_cmpR op_eq (pe_callB (call_isiK (K := K) rfl) (by rfl) T.b_isinstance (by decide +kernel) (pa_cons (pv 0) (pa_cons (pe_bltn (v := .ty "int") (by rfl) T.b_int (by decide +kernel) rfl) pa_nil))) (pe_callB (call_isiK (K := K) rfl) (by rfl) T.b_isinstance (by decide +kernel) (pa_cons (pv 1) (pa_cons (pe_bltn (v := .ty "int") (by rfl) T.b_int (by decide +kernel) rfl) pa_nil))) (nomark _)) (pe_one (pe_cmpR op_eq (pv 0) (pv 1) (nomark _))))) pss_nil)))), fun H0 => ?_⟩
    obtain ⟨d, e, rfl, p1, p2, d1, d2, sm, rfl⟩ := hS
    exact same_ds p1 p2 d1 d2 sm
theorem ok_law_sound (F : FnP K "_law_sound" "_law_sound" s_law_sound f fd) (T : Txt K mg) : FnOk P w K mg base CX0 1 f fd ["_law_number"] (spF (sp1 (aE K) (aE K) f_law_sound)) := by
  refine fnN_ok F sc_law_sound (fun As R h => by obtain ⟨v_law_number, c, rfl, _⟩ := h; rfl) (fun cdv A outer s H E hr => ?_)
  refine ⟨_, (pss_cons (ps_set (i := 1) sc_law_sound.nd rfl (by first | exact Or.inl rfl | exact Or.inr rfl) pe_str)
    (pss_cons (ps_ret (pe_joinK (K := K) rfl pe_str (pe_lc (own := [("_law_k", 2)]) (g := (gName 2)) (by rfl) sc_law_sound.nd (pi_range1 (by rfl) T.b_range (pa_cons (pe_op op_add pe_int (pe_op op_mod (pv 0) pe_int)) pa_nil)) (blkOk_by (own := [("_law_k", 2)]) (N := ["_law_number", "_law_letters", "_law_k"]) (sc := defScope s_law_sound) (by decide +kernel)) (fun _ _ _ _ _ => (pg_name (i := 2) sc_law_sound.nd rfl (by first | exact Or.inl rfl | exact Or.inr rfl))) (fun _ _ _ _ _ => pts_nil) (fun _ _ _ _ _ => (pe_ix ix_str (pv 1) (pe_op op_mod (pe_op op_add (pe_op op_fdiv (pv 0) pe_int) (pe_op op_mul (pv 2) (pe_op op_fdiv (pv 0) pe_int))) pe_int) (fun _ _ => rfl)))))) pss_nil)), fun H0 As R hS => ?_⟩
  obtain ⟨v_law_number, c, rfl, h, rfl⟩ := hS
  exact db_fin (B := fun (_ : Unit) => [.no, .no, .no]) (show DB ⟨C0.W, K⟩ H0 [sl false ((aE K) v_law_number), .no, .no] _ (aE K) _ _ from (db_set (i := 1) (f := true) (Ax := (aE K)) dm_str (fun v_law_letters => (db_ret (dm_join dm_str (dm_lc (vs := [2]) (dwm_rng1 (dm_add dm_int (dm_mod (dm_up (g := true) (dm_var (A := (aE K)) (f := false) (x := v_law_number) rfl)) dm_int))) (fun x1 => dg_name) (fun x1 => dtm_yes) (fun x1 => (dm_ixS (dm_up (g := true) (dm_var (A := (aE K)) (f := true) (x := v_law_letters) rfl)) (dm_mod (dm_add (dm_div (dm_up (g := true) (dm_var (A := (aE K)) (f := false) (x := v_law_number) rfl)) dm_int) (dm_mul (dm_up (g := true) (dm_var (A := (aE K)) (f := true) (x := x1) rfl)) (dm_div (dm_up (g := true) (dm_var (A := (aE K)) (f := false) (x := v_law_number) rfl)) dm_int))) dm_int))))))))) h
theorem ok_law_pool (F : FnP K "_law_pool" "_law_pool" s_law_pool f fd) (T : Txt K mg)
    (D_law_sound : DefAt P w K mg base "_law_sound" 1 ["_law_number"] (spF (sp1 (aE K) (aE K) f_law_sound))) : FnOk P w K mg base CX0 2 f fd ["_law_d"] (spF (sp1 (aE K) (aE K) f_law_pool)) := by
  refine fnN_ok F sc_law_pool (fun As R h => by obtain ⟨v_law_d, c, rfl, _⟩ := h; rfl) (fun cdv A outer s H E hr => ?_)
  refine ⟨_, (pss_cons (ps_if (pt_cmpR op_eq (pe_op op_mod (pe_ix (ix_listK (K := K) rfl) (pv 0) pe_int (fun _ _ => rfl)) pe_int) pe_int (nomark _)) (pss_cons (ps_ret (pe_lst (pa_cons pe_str (pa_cons pe_str (pa_cons pe_str (pa_cons pe_str (pa_cons pe_str (pa_cons pe_str pa_nil)))))))) pss_nil) pss_nil)
    (pss_cons (ps_if (pt_cmpR op_eq (pe_op op_mod (pe_ix (ix_listK (K := K) rfl) (pv 0) pe_int (fun _ _ => rfl)) pe_int) pe_int (nomark _)) (pss_cons (ps_ret (pe_lst (pa_cons pe_str (pa_cons pe_str (pa_cons pe_str (pa_cons pe_str (pa_cons pe_str (pa_cons pe_str pa_nil)))))))) pss_nil) pss_nil)
    (pss_cons (ps_ret (pe_lc (own := [("_law_k", 1)]) (g := (gName 1)) (by rfl) sc_law_pool.nd (pi_range2 (by rfl) T.b_range (pa_cons pe_int (pa_cons pe_int pa_nil))) (blkOk_by (own := [("_law_k", 1)]) (N := ["_law_d", "_law_k"]) (sc := defScope s_law_pool) (by decide +kernel)) (fun _ _ _ _ _ => (pg_name (i := 1) sc_law_pool.nd rfl (by first | exact Or.inl rfl | exact Or.inr rfl))) (fun _ _ _ _ _ => pts_nil) (fun _ _ _ _ _ => (pe_callD D_law_sound (hr.mono (by decide)) (by rfl) (pa_cons (pe_ix (ix_listK (K := K) rfl) (pv 0) (pv 1) (fun _ _ => rfl)) pa_nil))))) pss_nil))), fun H0 As R hS => ?_⟩
  obtain ⟨v_law_d, c, rfl, h, rfl⟩ := hS
  exact db_fin (B := fun (_ : Unit) => [.no, .no]) (show DB ⟨C0.W, K⟩ H0 [sl false ((aE K) v_law_d), .no] _ (aE K) _ _ from (db_if (B1 := fun (s1 : Unit) => [sl false ((aE K) v_law_d), .no]) (dtm_test (dm_eqI (dm_mod (dm_ixF (dm_var (A := (aE K)) (f := false) (x := v_law_d) rfl) dm_int) dm_int) dm_int)) (db_ret (dm_lst (f := true) (dam_cons dm_str (dam_cons dm_str (dam_cons dm_str (dam_cons dm_str (dam_cons dm_str (dam_cons dm_str (dam_nil (α := Str)))))))))) (db_nx (s := ()) (.cons .same (.cons .drop .nil))) (fun s1 => (db_if (B1 := fun (s2 : Unit) => [sl false ((aE K) v_law_d), .no]) (dtm_test (dm_eqI (dm_mod (dm_ixF (dm_var (A := (aE K)) (f := false) (x := v_law_d) rfl) dm_int) dm_int) dm_int)) (db_ret (dm_lst (f := true) (dam_cons dm_str (dam_cons dm_str (dam_cons dm_str (dam_cons dm_str (dam_cons dm_str (dam_cons dm_str (dam_nil (α := Str)))))))))) (db_nx (s := ()) (.cons .same (.cons .drop .nil))) (fun s2 => (db_ret (dm_lc (vs := [1]) (dwm_rng2 dm_int dm_int) (fun x3 => dg_name) (fun x3 => dtm_yes) (fun x3 => (dm_call1 bo_refl (dm_ixF (dm_var (A := (aE K)) (f := false) (x := v_law_d) rfl) (dm_up (g := true) (dm_var (A := (aE K)) (f := true) (x := x3) rfl)))))))))))) h
theorem ok_law_alike (F : FnP K "_law_alike" "_law_alike" s_law_alike f fd) (T : Txt K mg) : FnOk P w K mg base CX0 1 f fd ["_law_one", "_law_other"] (spF (sp2 (aE K) (aE K) (aE K) f_law_alike)) := by
  refine fnN_ok F sc_law_alike (fun As R h => by obtain ⟨v_law_one, v_law_other, c, rfl, _⟩ := h; rfl) (fun cdv A outer s H E hr => ?_)
  refine ⟨_, (pss_cons (ps_set (i := 2) sc_law_alike.nd rfl (by first | exact Or.inl rfl | exact Or.inr rfl) (pe_callB (call_min2 rfl) (by rfl) T.b_min (by decide +kernel) (pa_cons (pe_callB (call_lenK (K := K) rfl) (by rfl) T.b_len (by decide +kernel) (pa_cons (pv 0) pa_nil)) (pa_cons (pe_callB (call_lenK (K := K) rfl) (by rfl) T.b_len (by decide +kernel) (pa_cons (pv 1) pa_nil)) pa_nil))))
    (pss_cons (ps_ret (pe_cmpR (op_eqPK (K := K) rfl hr.units) (pe_slice (sl_listK (K := K) rfl) (pv 0) po_none (po_some (pv 2))) (pe_slice (sl_listK (K := K) rfl) (pv 1) po_none (po_some (pv 2))) (nomark _))) pss_nil)), fun H0 As R hS => ?_⟩
  obtain ⟨v_law_one, v_law_other, c, rfl, h, rfl⟩ := hS
  exact db_fin (B := fun (_ : Unit) => [.no, .no, .no]) (show DB ⟨C0.W, K⟩ H0 [sl false ((aE K) v_law_one), sl false ((aE K) v_law_other), .no] _ (aE K) _ _ from (db_set (i := 2) (f := true) (Ax := (aE K)) (dm_min (dm_len (dm_var (A := (aE K)) (f := false) (x := v_law_one) rfl)) (dm_len (dm_var (A := (aE K)) (f := false) (x := v_law_other) rfl))) (fun v_law_size => (db_ret (dm_eqP (dm_slF (dm_var (A := (aE K)) (f := false) (x := v_law_one) rfl) dom_no (dom_so (dm_up (g := true) (dm_var (A := (aE K)) (f := true) (x := v_law_size) rfl)))) (dm_slF (dm_var (A := (aE K)) (f := false) (x := v_law_other) rfl) dom_no (dom_so (dm_up (g := true) (dm_var (A := (aE K)) (f := true) (x := v_law_size) rfl)))) (by decide)))))) h
theorem ok_law_verse (F : FnP K "_law_verse" "_law_verse" s_law_verse f fd) (T : Txt K mg) : FnOk P w K mg base CX0 1 f fd ["_law_verses", "_law_pool_here", "_law_d"] (spF (sp3 (aE K) (aE K) (aE K) (aE K) f_law_verse)) := by
  refine fnN_ok F sc_law_verse (fun As R h => by obtain ⟨v_law_verses, v_law_pool_here, v_law_d, c, rfl, _⟩ := h; rfl) (fun cdv A outer s H E hr => ?_)
  refine ⟨_, (pss_cons (ps_set (i := 3) sc_law_verse.nd rfl (by first | exact Or.inl rfl | exact Or.inr rfl) (pe_lst pa_nil))
    (pss_cons (ps_if (PW.pt (pw_and (pt_cmpR (op_nePK (K := K) rfl hr.units) (pv 0) (pe_lst pa_nil) (nomark _)) (pw_and1 (pt_cmpR op_gt (pe_op op_mod (pe_ix (ix_listK (K := K) rfl) (pv 2) pe_int (fun _ _ => rfl)) pe_int) pe_int (nomark _))))) (pss_cons (ps_set (i := 4) sc_law_verse.nd rfl (by first | exact Or.inl rfl | exact Or.inr rfl) (pe_ix (ix_listK (K := K) rfl) (pv 0) (pe_op op_mod (pe_ix (ix_listK (K := K) rfl) (pv 2) pe_int (fun _ _ => rfl)) (pe_callB (call_lenK (K := K) rfl) (by rfl) T.b_len (by decide +kernel) (pa_cons (pv 0) pa_nil))) (fun _ _ => rfl)))
    (pss_cons (ps_set (i := 3) sc_law_verse.nd rfl (by first | exact Or.inl rfl | exact Or.inr rfl) (pe_slice (sl_listK (K := K) rfl) (pv 4) po_none (po_some (pe_op op_mod (pe_op op_fdiv (pe_ix (ix_listK (K := K) rfl) (pv 2) pe_int (fun _ _ => rfl)) pe_int) (pe_op op_add (pe_callB (call_lenK (K := K) rfl) (by rfl) T.b_len (by decide +kernel) (pa_cons (pv 4) pa_nil)) pe_int)))))
    pss_nil)) pss_nil)
    (pss_cons (ps_set (i := 3) sc_law_verse.nd rfl (by first | exact Or.inl rfl | exact Or.inr rfl) (pe_op (op_catK (K := K) rfl) (pv 3) (pe_lc (own := [("_law_k", 5)]) (g := (gName 5)) (by rfl) sc_law_verse.nd (pi_range1 (by rfl) T.b_range (pa_cons (pe_op op_add pe_int (pe_op op_mod (pe_ix (ix_listK (K := K) rfl) (pv 2) pe_int (fun _ _ => rfl)) pe_int)) pa_nil)) (blkOk_by (own := [("_law_k", 5)]) (N := ["_law_verses", "_law_pool_here", "_law_d", "_law_line", "_law_ahead", "_law_k"]) (sc := defScope s_law_verse) (by decide +kernel)) (fun _ _ _ _ _ => (pg_name (i := 5) sc_law_verse.nd rfl (by first | exact Or.inl rfl | exact Or.inr rfl))) (fun _ _ _ _ _ => pts_nil) (fun _ _ _ _ _ => (pe_ix (ix_listK (K := K) rfl) (pv 1) (pe_op op_mod (pe_ix (ix_listK (K := K) rfl) (pv 2) (pe_op op_add pe_int (pv 5)) (fun _ _ => rfl)) (pe_callB (call_lenK (K := K) rfl) (by rfl) T.b_len (by decide +kernel) (pa_cons (pv 1) pa_nil))) (fun _ _ => rfl))))))
    (pss_cons (ps_ret (pe_slice (sl_listK (K := K) rfl) (pv 3) po_none (po_some pe_int))) pss_nil)))), fun H0 As R hS => ?_⟩
  obtain ⟨v_law_verses, v_law_pool_here, v_law_d, c, rfl, h, rfl⟩ := hS
  exact db_fin (B := fun (_ : Unit) => [.no, .no, .no, .no, .no, .no]) (show DB ⟨C0.W, K⟩ H0 [sl false ((aE K) v_law_verses), sl false ((aE K) v_law_pool_here), sl false ((aE K) v_law_d), .no, .no, .no] _ (aE K) _ _ from (db_set (i := 3) (f := true) (Ax := (aE K)) (dm_lst (f := true) (dam_nil (α := Str))) (fun v_law_line => (db_if (B1 := fun (s1 : (List Str)) => [sl false ((aE K) v_law_verses), sl false ((aE K) v_law_pool_here), sl false ((aE K) v_law_d), sl true ((aE K) s1), .no, .no]) (dtm_and (dtm_test (dm_neP (dm_var (A := (aE K)) (f := false) (x := v_law_verses) rfl) (dm_lst (f := true) (dam_nil (α := (List Str)))) (by decide))) (dtm_test (dm_cmp (G := gtI) (g := fun i j => decide (j < i)) (dm_mod (dm_ixF (dm_var (A := (aE K)) (f := false) (x := v_law_d) rfl) dm_int) dm_int) dm_int (fun _ _ => rfl)))) (db_set (i := 4) (f := false) (Ax := (aE K)) (dm_ix (dm_var (A := (aE K)) (f := false) (x := v_law_verses) rfl) (dm_mod (dm_ixF (dm_var (A := (aE K)) (f := false) (x := v_law_d) rfl) dm_int) (dm_len (dm_var (A := (aE K)) (f := false) (x := v_law_verses) rfl)))) (fun v_law_ahead => (db_set (i := 3) (f := true) (Ax := (aE K)) (dm_slF (dm_var (A := (aE K)) (f := false) (x := v_law_ahead) rfl) dom_no (dom_so (dm_mod (dm_div (dm_ixF (dm_var (A := (aE K)) (f := false) (x := v_law_d) rfl) dm_int) dm_int) (dm_add (dm_len (dm_var (A := (aE K)) (f := false) (x := v_law_ahead) rfl)) dm_int)))) (fun v_law_line => (db_nx (s := v_law_line) (.cons .same (.cons .same (.cons .same (.cons .same (.cons .drop (.cons .drop .nil))))))))))) (db_nx (s := v_law_line) (.cons .same (.cons .same (.cons .same (.cons .same (.cons .drop (.cons .drop .nil))))))) (fun s1 => (db_set (i := 3) (f := true) (Ax := (aE K)) (dm_cat (dm_var (A := (aE K)) (f := true) (x := s1) rfl) (dm_lc (vs := [5]) (dwm_rng1 (dm_add dm_int (dm_mod (dm_ixF (dm_var (A := (aE K)) (f := false) (x := v_law_d) rfl) dm_int) dm_int))) (fun x2 => dg_name) (fun x2 => dtm_yes) (fun x2 => (dm_ixF (dm_var (A := (aE K)) (f := false) (x := v_law_pool_here) rfl) (dm_mod (dm_ixF (dm_var (A := (aE K)) (f := false) (x := v_law_d) rfl) (dm_add dm_int (dm_up (g := true) (dm_var (A := (aE K)) (f := true) (x := x2) rfl)))) (dm_len (dm_var (A := (aE K)) (f := false) (x := v_law_pool_here) rfl))))))) (fun v_law_line => (db_ret (dm_slF (dm_var (A := (aE K)) (f := true) (x := v_law_line) rfl) dom_no (dom_so dm_int)))))))))) h
theorem ok_law_wide (F : FnP K "_law_wide" "_law_wide" s_law_wide f fd) (T : Txt K mg) : FnOk P w K mg base CX0 1 f fd ["_law_d", "_law_size"] (spF (sp2 (aE K) (aE K) (aE K) f_law_wide)) := by
  refine fnN_ok F sc_law_wide (fun As R h => by obtain ⟨v_law_d, v_law_size, c, rfl, _⟩ := h; rfl) (fun cdv A outer s H E hr => ?_)
  refine ⟨_, (pss_cons (ps_set (i := 2) sc_law_wide.nd rfl (by first | exact Or.inl rfl | exact Or.inr rfl) (pe_lst pa_nil))
    (pss_cons (ps_for PassesOwn.never rfl (pi_range1 (by rfl) T.b_range (pa_cons (pv 1) pa_nil)) (pg_name (i := 3) sc_law_wide.nd rfl (by first | exact Or.inl rfl | exact Or.inr rfl)) (pss_cons (ps_set (i := 4) sc_law_wide.nd rfl (by first | exact Or.inl rfl | exact Or.inr rfl) (pe_op op_mod (pe_op op_add (pe_ix (ix_listK (K := K) rfl) (pv 0) pe_int (fun _ _ => rfl)) (pe_op op_mul (pv 3) (pe_op op_add pe_int (pe_op op_mul pe_int (pe_op op_mod (pe_ix (ix_listK (K := K) rfl) (pv 0) pe_int (fun _ _ => rfl)) pe_int))))) pe_int))
    (pss_cons (ps_set (i := 5) sc_law_wide.nd rfl (by first | exact Or.inl rfl | exact Or.inr rfl) (pe_lst (pa_cons (pe_ix (ix_listK (K := K) rfl) (pe_lst (pa_cons pe_str (pa_cons pe_str (pa_cons pe_str (pa_cons pe_str pa_nil))))) (pe_op op_fdiv (pv 4) pe_int) (fun _ _ => rfl)) (pa_cons (pe_ix (ix_listK (K := K) rfl) (pe_lst (pa_cons pe_str (pa_cons pe_str (pa_cons pe_str (pa_cons pe_str pa_nil))))) (pe_op op_mod (pe_op op_fdiv (pv 4) pe_int) pe_int) (fun _ _ => rfl)) (pa_cons (pe_ix (ix_listK (K := K) rfl) (pe_lst (pa_cons pe_str (pa_cons pe_str (pa_cons pe_str (pa_cons pe_str pa_nil))))) (pe_op op_mod (pv 4) pe_int) (fun _ _ => rfl)) pa_nil)))))
    (pss_cons (ps_expr (pe_bm PySem.F.plainAttrs_list PySem.F.slot_list_append PySem.F.type_list_append mt_append (pv 2) (pa_cons (pe_op (op_catK (K := K) rfl) (pv 5) (pe_slice (sl_listK (K := K) rfl) (pe_lst (pa_cons pe_str (pa_cons pe_str (pa_cons pe_str (pa_cons pe_str (pa_cons pe_str pa_nil)))))) po_none (po_some (pe_op op_mod (pe_op op_add (pe_ix (ix_listK (K := K) rfl) (pv 0) pe_int (fun _ _ => rfl)) (pe_op op_mul (pv 3) (pe_ix (ix_listK (K := K) rfl) (pv 0) pe_int (fun _ _ => rfl)))) pe_int)))) pa_nil)))
    pss_nil))))
    (pss_cons (ps_ret (pv 2)) pss_nil))), fun H0 As R hS => ?_⟩
  obtain ⟨v_law_d, v_law_size, c, rfl, h, rfl⟩ := hS
  exact db_fin (B := fun (_ : Unit) => [.no, .no, .no, .no, .no, .no]) (show DB ⟨C0.W, K⟩ H0 [sl false ((aE K) v_law_d), sl false ((aE K) v_law_size), .no, .no, .no, .no] _ (aE K) _ _ from (db_own (α := (List Str)) (i := 2) (fun v_law_verses => (db_for (vs := [3]) (B1 := fun (s1 : (List (List Str))) => [sl false ((aE K) v_law_d), sl false ((aE K) v_law_size), .own (oE K s1), .no, .no, .no]) (s0 := v_law_verses) (dwm_rng1 (dm_up (g := true) (dm_var (A := (aE K)) (f := false) (x := v_law_size) rfl))) (.cons .same (.cons .same (.cons .same (.cons .drop (.cons .drop (.cons .drop .nil)))))) (fun x2 s1 => dg_name) (fun x2 s1 => (db_set (i := 4) (f := true) (Ax := (aE K)) (dm_mod (dm_add (dm_ixF (dm_var (A := (aE K)) (f := false) (x := v_law_d) rfl) dm_int) (dm_mul (dm_up (g := true) (dm_var (A := (aE K)) (f := true) (x := x2) rfl)) (dm_add dm_int (dm_mul dm_int (dm_mod (dm_ixF (dm_var (A := (aE K)) (f := false) (x := v_law_d) rfl) dm_int) dm_int))))) dm_int) (fun v_law_at => (db_set (i := 5) (f := true) (Ax := (aE K)) (dm_lst (f := true) (dam_cons (dm_ixF (dm_lst (f := true) (dam_cons dm_str (dam_cons dm_str (dam_cons dm_str (dam_cons dm_str (dam_nil (α := Str))))))) (dm_div (dm_up (g := true) (dm_var (A := (aE K)) (f := true) (x := v_law_at) rfl)) dm_int)) (dam_cons (dm_ixF (dm_lst (f := true) (dam_cons dm_str (dam_cons dm_str (dam_cons dm_str (dam_cons dm_str (dam_nil (α := Str))))))) (dm_mod (dm_div (dm_up (g := true) (dm_var (A := (aE K)) (f := true) (x := v_law_at) rfl)) dm_int) dm_int)) (dam_cons (dm_ixF (dm_lst (f := true) (dam_cons dm_str (dam_cons dm_str (dam_cons dm_str (dam_cons dm_str (dam_nil (α := Str))))))) (dm_mod (dm_up (g := true) (dm_var (A := (aE K)) (f := true) (x := v_law_at) rfl)) dm_int)) (dam_nil (α := Str)))))) (fun v_law_line => (db_app (i := 2) (xs := s1) rfl (dm_cat (dm_var (A := (aE K)) (f := true) (x := v_law_line) rfl) (dm_slF (dm_lst (f := true) (dam_cons dm_str (dam_cons dm_str (dam_cons dm_str (dam_cons dm_str (dam_cons dm_str (dam_nil (α := Str)))))))) dom_no (dom_so (dm_mod (dm_add (dm_ixF (dm_var (A := (aE K)) (f := false) (x := v_law_d) rfl) dm_int) (dm_mul (dm_up (g := true) (dm_var (A := (aE K)) (f := true) (x := x2) rfl)) (dm_ixF (dm_var (A := (aE K)) (f := false) (x := v_law_d) rfl) dm_int))) dm_int)))) (fun v_law_verses => (db_nx (s := v_law_verses) (.cons .same (.cons .same (.cons .same (.cons .drop (.cons .drop (.cons .drop .nil)))))))))))))) (fun s1 => (db_bor (bo_ownE (K := K) (i := 2) (xs := s1) rfl) (db_ret (dm_var (A := (aE K)) (f := true) (x := s1) rfl)))))))) h
theorem ok_law_book (F : FnP K "_law_book" "_law_book" s_law_book f fd) (T : Txt K mg)
    (D_law_pool : DefAt P w K mg base "_law_pool" 2 ["_law_d"] (spF (sp1 (aE K) (aE K) f_law_pool)))
    (D_law_alike : DefAt P w K mg base "_law_alike" 1 ["_law_one", "_law_other"] (spF (sp2 (aE K) (aE K) (aE K) f_law_alike)))
    (D_law_verse : DefAt P w K mg base "_law_verse" 1 ["_law_verses", "_law_pool_here", "_law_d"] (spF (sp3 (aE K) (aE K) (aE K) (aE K) f_law_verse)))
    (D_law_wide : DefAt P w K mg base "_law_wide" 1 ["_law_d", "_law_size"] (spF (sp2 (aE K) (aE K) (aE K) f_law_wide))) : FnOk P w K mg base CX0 3 f fd ["_law_d", "_law_most"] (spF (sp2 (aE K) (aE K) (aE K) f_law_book)) := by
  refine fnN_ok F sc_law_book (fun As R h => by obtain ⟨v_law_d, v_law_most, c, rfl, _⟩ := h; rfl) (fun cdv A outer s H E hr => ?_)
  refine ⟨_, (pss_cons (ps_if (pt_cmpR op_eq (pe_op op_mod (pe_op op_fdiv (pe_ix (ix_listK (K := K) rfl) (pv 0) pe_int (fun _ _ => rfl)) pe_int) pe_int) pe_int (nomark _)) (pss_cons (ps_ret (pe_callD D_law_wide (hr.mono (by decide)) (by rfl) (pa_cons (pe_slice (sl_listK (K := K) rfl) (pv 0) (po_some pe_int) (po_some pe_int)) (pa_cons (pe_op op_add pe_int (pe_op op_mod (pe_ix (ix_listK (K := K) rfl) (pv 0) pe_int (fun _ _ => rfl)) (pv 1))) pa_nil)))) pss_nil) pss_nil)
    (pss_cons (ps_set (i := 2) sc_law_book.nd rfl (by first | exact Or.inl rfl | exact Or.inr rfl) (pe_slice (sl_listK (K := K) rfl) (pe_callD D_law_pool (hr.mono (by decide)) (by rfl) (pa_cons (pe_slice (sl_listK (K := K) rfl) (pv 0) (po_some pe_int) (po_some pe_int)) pa_nil)) po_none (po_some (pe_op op_add pe_int (pe_op op_mod (pe_ix (ix_listK (K := K) rfl) (pv 0) pe_int (fun _ _ => rfl)) pe_int)))))
    (pss_cons (ps_set (i := 3) sc_law_book.nd rfl (by first | exact Or.inl rfl | exact Or.inr rfl) (pe_lst pa_nil))
    (pss_cons (ps_for PassesOwn.never rfl (pi_range1 (by rfl) T.b_range (pa_cons (pe_op op_add pe_int (pe_op op_mod (pe_ix (ix_listK (K := K) rfl) (pv 0) pe_int (fun _ _ => rfl)) (pv 1))) pa_nil)) (pg_name (i := 4) sc_law_book.nd rfl (by first | exact Or.inl rfl | exact Or.inr rfl)) (pss_cons (ps_set (i := 5) sc_law_book.nd rfl (by first | exact Or.inl rfl | exact Or.inr rfl) (pe_callD D_law_verse (hr.mono (by decide)) (by rfl) (pa_cons (pv 3) (pa_cons (pv 2) (pa_cons (pe_slice (sl_listK (K := K) rfl) (pv 0) (po_some (pe_op op_add pe_int (pe_op op_mul pe_int (pv 4)))) (po_some (pe_op op_add pe_int (pe_op op_mul pe_int (pv 4))))) pa_nil)))))
    (pss_cons (ps_if (pt_val (pe_callB (cr_allK (K := K) rfl rfl) (by rfl) T.b_all (by decide +kernel) (pa_cons (pe_lc (own := [("_law_one", 6)]) (g := (gName 6)) (by rfl) sc_law_book.nd (pi_listK (K := K) rfl (pv 3)) (blkOk_by (own := [("_law_one", 6)]) (N := ["_law_d", "_law_most", "_law_pool_here", "_law_verses", "_law_k", "_law_line", "_law_one"]) (sc := defScope s_law_book) (by decide +kernel)) (fun _ _ _ _ _ => (pg_name (i := 6) sc_law_book.nd rfl (by first | exact Or.inl rfl | exact Or.inr rfl))) (fun _ _ _ _ _ => pts_nil) (fun _ _ _ _ _ => (pe_not (pe_callD D_law_alike (hr.mono (by decide)) (by rfl) (pa_cons (pv 5) (pa_cons (pv 6) pa_nil)))))) pa_nil))) (pss_cons (ps_expr (pe_bm PySem.F.plainAttrs_list PySem.F.slot_list_append PySem.F.type_list_append mt_append (pv 3) (pa_cons (pv 5) pa_nil)))
    pss_nil) pss_nil)
    pss_nil)))
    (pss_cons (ps_ret (pv 3)) pss_nil))))), fun H0 As R hS => ?_⟩
  obtain ⟨v_law_d, v_law_most, c, rfl, h, rfl⟩ := hS
  exact db_fin (B := fun (_ : Unit) => [.no, .no, .no, .no, .no, .no, .no]) (show DB ⟨C0.W, K⟩ H0 [sl false ((aE K) v_law_d), sl false ((aE K) v_law_most), .no, .no, .no, .no, .no] _ (aE K) _ _ from (db_if (B1 := fun (s1 : Unit) => [sl false ((aE K) v_law_d), sl false ((aE K) v_law_most), .no, .no, .no, .no, .no]) (dtm_test (dm_eqI (dm_mod (dm_div (dm_ixF (dm_var (A := (aE K)) (f := false) (x := v_law_d) rfl) dm_int) dm_int) dm_int) dm_int)) (db_ret (dm_call2 bo_refl (dm_slF (dm_var (A := (aE K)) (f := false) (x := v_law_d) rfl) (dom_so dm_int) (dom_so dm_int)) (dm_add dm_int (dm_mod (dm_ixF (dm_var (A := (aE K)) (f := false) (x := v_law_d) rfl) dm_int) (dm_up (g := true) (dm_var (A := (aE K)) (f := false) (x := v_law_most) rfl)))))) (db_nx (s := ()) (.cons .same (.cons .same (.cons .drop (.cons .drop (.cons .drop (.cons .drop (.cons .drop .nil)))))))) (fun s1 => (db_set (i := 2) (f := true) (Ax := (aE K)) (dm_slF (dm_call1 bo_refl (dm_slF (dm_var (A := (aE K)) (f := false) (x := v_law_d) rfl) (dom_so dm_int) (dom_so dm_int))) dom_no (dom_so (dm_add dm_int (dm_mod (dm_ixF (dm_var (A := (aE K)) (f := false) (x := v_law_d) rfl) dm_int) dm_int)))) (fun v_law_pool_here => (db_own (α := (List Str)) (i := 3) (fun v_law_verses => (db_for (vs := [4]) (B1 := fun (s2 : (List (List Str))) => [sl false ((aE K) v_law_d), sl false ((aE K) v_law_most), sl true ((aE K) v_law_pool_here), .own (oE K s2), .no, .no, .no]) (s0 := v_law_verses) (dwm_rng1 (dm_add dm_int (dm_mod (dm_ixF (dm_var (A := (aE K)) (f := false) (x := v_law_d) rfl) dm_int) (dm_up (g := true) (dm_var (A := (aE K)) (f := false) (x := v_law_most) rfl))))) (.cons .same (.cons .same (.cons .same (.cons .same (.cons .drop (.cons .drop (.cons .drop .nil))))))) (fun x3 s2 => dg_name) (fun x3 s2 => (db_set (i := 5) (f := true) (Ax := (aE K)) (dm_call3 (bo_ownE (K := K) (i := 3) (xs := s2) rfl) (dm_var (A := (aE K)) (f := true) (x := s2) rfl) (dm_var (A := (aE K)) (f := true) (x := v_law_pool_here) rfl) (dm_slF (dm_var (A := (aE K)) (f := false) (x := v_law_d) rfl) (dom_so (dm_add dm_int (dm_mul dm_int (dm_up (g := true) (dm_var (A := (aE K)) (f := true) (x := x3) rfl))))) (dom_so (dm_add dm_int (dm_mul dm_int (dm_up (g := true) (dm_var (A := (aE K)) (f := true) (x := x3) rfl))))))) (fun v_law_line => (db_if (B1 := fun (s7 : (List (List Str))) => [sl false ((aE K) v_law_d), sl false ((aE K) v_law_most), sl true ((aE K) v_law_pool_here), .own (oE K s7), sl true ((aE K) x3), sl true ((aE K) v_law_line), .no]) (dtm_bor (bo_ownE (K := K) (i := 3) (xs := s2) rfl) (dtm_B (dm_all (dm_lc (vs := [6]) (dwm_list (dm_var (A := (aE K)) (f := true) (x := s2) rfl)) (fun x6 => dg_name) (fun x6 => dtm_yes) (fun x6 => (dm_not (dm_call2 bo_refl (dm_var (A := (aE K)) (f := true) (x := v_law_line) rfl) (dm_var (A := (aE K)) (f := true) (x := x6) rfl)))))))) (db_app (i := 3) (xs := s2) rfl (dm_var (A := (aE K)) (f := true) (x := v_law_line) rfl) (fun v_law_verses => (db_nx (s := v_law_verses) (.cons .same (.cons .same (.cons .same (.cons .same (.cons .same (.cons .same (.cons .drop .nil)))))))))) (db_nx (s := s2) (.cons .same (.cons .same (.cons .same (.cons .same (.cons .same (.cons .same (.cons .drop .nil)))))))) (fun s7 => (db_nx (s := s7) (.cons .same (.cons .same (.cons .same (.cons .same (.cons .drop (.cons .drop (.cons .drop .nil))))))))))))) (fun s2 => (db_bor (bo_ownE (K := K) (i := 3) (xs := s2) rfl) (db_ret (dm_var (A := (aE K)) (f := true) (x := s2) rfl)))))))))))) h
theorem ok_law_copy (F : FnP K "_law_copy" "_law_copy" s_law_copy f fd) (T : Txt K mg) : FnOk P w K mg base CX0 1 f fd ["_law_rows"] (spF (sp1 (aE K) (aE K) f_law_copy)) := by
  refine fnN_ok F sc_law_copy (fun As R h => by obtain ⟨v_law_rows, c, rfl, _⟩ := h; rfl) (fun cdv A outer s H E hr => ?_)
  refine ⟨_, (pss_cons (ps_ret (pe_lc (own := [("_law_row", 1)]) (g := (gName 1)) (by rfl) sc_law_copy.nd (pi_listK (K := K) rfl (pv 0)) (blkOk_by (own := [("_law_row", 1)]) (N := ["_law_rows", "_law_row"]) (sc := defScope s_law_copy) (by decide +kernel)) (fun _ _ _ _ _ => (pg_name (i := 1) sc_law_copy.nd rfl (by first | exact Or.inl rfl | exact Or.inr rfl))) (fun _ _ _ _ _ => pts_nil) (fun _ _ _ _ _ => (pe_callTy (call_listK (K := K) rfl) (by rfl) T.b_list (by decide +kernel) (pa_cons (pv 1) pa_nil))))) pss_nil), fun H0 As R hS => ?_⟩
  obtain ⟨v_law_rows, c, rfl, h, rfl⟩ := hS
  exact db_fin (B := fun (_ : Unit) => [.no, .no]) (show DB ⟨C0.W, K⟩ H0 [sl false ((aE K) v_law_rows), .no] _ (aE K) _ _ from (db_ret (dm_lc (vs := [1]) (dwm_list (dm_var (A := (aE K)) (f := false) (x := v_law_rows) rfl)) (fun x1 => dg_name) (fun x1 => dtm_yes) (fun x1 => (dm_listF (dm_var (A := (aE K)) (f := false) (x := x1) rfl)))))) h
theorem ok_is_syllable (F : FnP K "is_syllable" "is_syllable" s_is_syllable f fd) (T : Txt K mg) : FnOk P w K mg base CX0 1 f fd ["text"] (spF (sp1 (aE K) (aE K) f_is_syllable)) := by
  refine fnN_ok F sc_is_syllable (fun As R h => by obtain ⟨v_text, c, rfl, _⟩ := h; rfl) (fun cdv A outer s H E hr => ?_)
  refine ⟨_, (pss_cons (ps_ret (pe_and (pe_chain op_le op_le pe_int (pe_callB (call_lenK (K := K) rfl) (by rfl) T.b_len (by decide +kernel) (pa_cons (pv 0) pa_nil)) (pe_globI (by rfl) T.g_MOST_LETTERS)) (pe_one (pe_callB (cr_allK (K := K) rfl rfl) (by rfl) T.b_all (by decide +kernel) (pa_cons (pe_lc (own := [("letter", 1)]) (g := (gName 1)) (by rfl) sc_is_syllable.nd (pi_str (pv 0)) (blkOk_by (own := [("letter", 1)]) (N := ["text", "letter"]) (sc := defScope s_is_syllable) (by decide +kernel)) (fun _ _ _ _ _ => (pg_name (i := 1) sc_is_syllable.nd rfl (by first | exact Or.inl rfl | exact Or.inr rfl))) (fun _ _ _ _ _ => pts_nil) (fun _ _ _ _ _ => (pe_chain op_le_str op_le_str pe_str (pv 1) pe_str))) pa_nil))))) pss_nil), fun H0 As R hS => ?_⟩
  obtain ⟨v_text, c, rfl, h, rfl⟩ := hS
  exact db_fin (B := fun (_ : Unit) => [.no, .no]) (show DB ⟨C0.W, K⟩ H0 [sl false ((aE K) v_text), .no] _ (aE K) _ _ from (db_ret (dm_and (dm_chI (G := leI) (G' := leI) (g := fun i j => decide (i ≤ j)) (g' := fun i j => decide (i ≤ j)) dm_int (dm_lenS (dm_up (g := true) (dm_var (A := (aE K)) (f := false) (x := v_text) rfl))) (dm_int (i := 3)) (fun _ _ => rfl) (fun _ _ => rfl)) (dm_all (dm_lc (vs := [1]) (dwm_str (dm_up (g := true) (dm_var (A := (aE K)) (f := false) (x := v_text) rfl))) (fun x1 => dg_name) (fun x1 => dtm_yes) (fun x1 => (dm_chS dm_str (dm_up (g := true) (dm_var (A := (aE K)) (f := true) (x := x1) rfl)) dm_str))))))) h
theorem ok_is_verse (F : FnP K "is_verse" "is_verse" s_is_verse f fd) (T : Txt K mg)
    (D_is_syllable : DefAt P w K mg base "is_syllable" 1 ["text"] (spF (sp1 (aE K) (aE K) f_is_syllable))) : FnOk P w K mg base CX0 2 f fd ["syllables"] (spF (sp1 (aE K) (aE K) f_is_verse)) := by
  refine fnN_ok F sc_is_verse (fun As R h => by obtain ⟨v_syllables, c, rfl, _⟩ := h; rfl) (fun cdv A outer s H E hr => ?_)
  refine ⟨_, (pss_cons (ps_ret (pe_and (pe_chain op_le op_le pe_int (pe_callB (call_lenK (K := K) rfl) (by rfl) T.b_len (by decide +kernel) (pa_cons (pv 0) pa_nil)) (pe_globI (by rfl) T.g_MOST_SYLLABLES)) (pe_one (pe_callB (cr_allK (K := K) rfl rfl) (by rfl) T.b_all (by decide +kernel) (pa_cons (pe_lc (own := [("text", 1)]) (g := (gName 1)) (by rfl) sc_is_verse.nd (pi_listK (K := K) rfl (pv 0)) (blkOk_by (own := [("text", 1)]) (N := ["syllables", "text"]) (sc := defScope s_is_verse) (by decide +kernel)) (fun _ _ _ _ _ => (pg_name (i := 1) sc_is_verse.nd rfl (by first | exact Or.inl rfl | exact Or.inr rfl))) (fun _ _ _ _ _ => pts_nil) (fun _ _ _ _ _ => (pe_callD D_is_syllable (hr.mono (by decide)) (by rfl) (pa_cons (pv 1) pa_nil)))) pa_nil))))) pss_nil), fun H0 As R hS => ?_⟩
  obtain ⟨v_syllables, c, rfl, h, rfl⟩ := hS
  exact db_fin (B := fun (_ : Unit) => [.no, .no]) (show DB ⟨C0.W, K⟩ H0 [sl false ((aE K) v_syllables), .no] _ (aE K) _ _ from (db_ret (dm_and (dm_chI (G := leI) (G' := leI) (g := fun i j => decide (i ≤ j)) (g' := fun i j => decide (i ≤ j)) dm_int (dm_len (dm_var (A := (aE K)) (f := false) (x := v_syllables) rfl)) (dm_int (i := 8)) (fun _ _ => rfl) (fun _ _ => rfl)) (dm_all (dm_lc (vs := [1]) (dwm_list (dm_var (A := (aE K)) (f := false) (x := v_syllables) rfl)) (fun x1 => dg_name) (fun x1 => dtm_yes) (fun x1 => (dm_call1 bo_refl (dm_up (g := true) (dm_var (A := (aE K)) (f := false) (x := x1) rfl))))))))) h
theorem ok_begins (F : FnP K "begins" "begins" s_begins f fd) (T : Txt K mg) : FnOk P w K mg base CX0 1 f fd ["one", "other"] (spF (sp2 (aE K) (aE K) (aE K) f_begins)) := by
  refine fnN_ok F sc_begins (fun As R h => by obtain ⟨v_one, v_other, c, rfl, _⟩ := h; rfl) (fun cdv A outer s H E hr => ?_)
  refine ⟨_, (pss_cons (ps_ret (pe_cmpR (op_eqPK (K := K) rfl hr.units) (pe_slice (sl_listK (K := K) rfl) (pv 1) po_none (po_some (pe_callB (call_lenK (K := K) rfl) (by rfl) T.b_len (by decide +kernel) (pa_cons (pv 0) pa_nil)))) (pv 0) (nomark _))) pss_nil), fun H0 As R hS => ?_⟩
  obtain ⟨v_one, v_other, c, rfl, h, rfl⟩ := hS
  exact db_fin (B := fun (_ : Unit) => [.no, .no]) (show DB ⟨C0.W, K⟩ H0 [sl false ((aE K) v_one), sl false ((aE K) v_other)] _ (aE K) _ _ from (db_ret (dm_eqP (dm_slF (dm_var (A := (aE K)) (f := false) (x := v_other) rfl) dom_no (dom_so (dm_len (dm_var (A := (aE K)) (f := false) (x := v_one) rfl)))) (dm_var (A := (aE K)) (f := false) (x := v_one) rfl) (by decide)))) h
theorem ok_BadVerse___init__ (F : FnP K "__init__" "BadVerse.__init__" s_BadVerse___init__ f fd) (T : Txt K mg) : FnOk P w K mg base CX0 1 f fd ["self", "row"] (spE1 (He.ga K "BadVerse") "row") :=
  fnE1_ok F sc_BadVerse___init__ T.x_BadVerse (by simp) (fun cdv A outer s H E => (pss_cons (ps_ost (pv 0) (pv 1)) pss_nil))
theorem ok_Alike___init__ (F : FnP K "__init__" "Alike.__init__" s_Alike___init__ f fd) (T : Txt K mg) : FnOk P w K mg base CX0 1 f fd ["self", "one", "other"] (spE2 (He.ga K "Alike") "one" "other") :=
  fnE2_ok F sc_Alike___init__ T.x_Alike (by simp) (by simp) (fun cdv A outer s H E => (pss_cons (ps_ost (pv 0) (pv 1)) (pss_cons (ps_ost (pv 0) (pv 2)) pss_nil)))
theorem ok_check_rows_x (F : FnP K "check_rows" "check_rows" s_check_rows_x f fd) (T : Txt K mg)
    (D_is_verse : DefAt P w K mg base "is_verse" 2 ["syllables"] (spF (sp1 (aE K) (aE K) f_is_verse)))
    (D_begins : DefAt P w K mg base "begins" 1 ["one", "other"] (spF (sp2 (aE K) (aE K) (aE K) f_begins)))
    (D_BadVerse___init__ : XkAt P w K mg base "BadVerse" (He.ga K "BadVerse") 1 ["self", "row"] (spE1 (He.ga K "BadVerse") "row"))
    (D_Alike___init__ : XkAt P w K mg base "Alike" (He.ga K "Alike") 1 ["self", "one", "other"] (spE2 (He.ga K "Alike") "one" "other")) : FnOk P w K mg base (L2.CX P w) 3 f fd ["rows"] (spX (sx1 K (aE K) (aE K) f_check_rows_x)) := by
  refine fnX_ok F sc_check_rows_x (fun As O h => by obtain ⟨v_rows, o, rfl, _⟩ := h; rfl) (fun cdv A outer s H E hr => ?_)
  have tk := takes_def (P := P) (w := w) (K := K) (mg := mg) (base := base) (N := ["rows", "row", "syllables", "other", "one"]) (qual := "check_rows") (scope := defScope s_check_rows_x) (f := f) (cd := cdv) (A := A) (outer := outer) (s := s) (H := H) (E := E)
  refine ⟨_, (pss_cons (ps_if (pt_not (pt_chain op_le op_le pe_int (pe_callB (call_lenK (K := K) rfl) (by rfl) T.b_len (by decide +kernel) (pa_cons (pv 0) pa_nil)) (pe_globI (by rfl) T.g_MOST_VERSES))) (pss_cons (ps_raiseX T.e_BadBook rfl tk (by rfl)) pss_nil) pss_nil)
    (pss_cons (ps_for passes_def rfl (pi_enumK (K := K) rfl (by rfl) T.b_enumerate (pa_cons (pv 0) pa_nil)) (pg_tup rfl (pgs_cons (pg_name (i := 1) sc_check_rows_x.nd rfl (by first | exact Or.inl rfl | exact Or.inr rfl)) (pgs_cons (pg_name (i := 2) sc_check_rows_x.nd rfl (by first | exact Or.inl rfl | exact Or.inr rfl)) pgs_nil))) (pss_cons (ps_if (pt_not (pt_val (pe_callD D_is_verse (hr.mono (by decide)) (by rfl) (pa_cons (pv 2) pa_nil)))) (pss_cons (ps_raiseF D_BadVerse___init__ (hr.mono (by decide)) rfl tk (by rfl) (pa_cons (pv 1) pa_nil)) pss_nil) pss_nil)
    pss_nil))
    (pss_cons (ps_for passes_def rfl (pi_range1 (by rfl) T.b_range (pa_cons (pe_callB (call_lenK (K := K) rfl) (by rfl) T.b_len (by decide +kernel) (pa_cons (pv 0) pa_nil)) pa_nil)) (pg_name (i := 3) sc_check_rows_x.nd rfl (by first | exact Or.inl rfl | exact Or.inr rfl)) (pss_cons (ps_for passes_def rfl (pi_range1 (by rfl) T.b_range (pa_cons (pv 3) pa_nil)) (pg_name (i := 4) sc_check_rows_x.nd rfl (by first | exact Or.inl rfl | exact Or.inr rfl)) (pss_cons (ps_if (PW.pt (pw_or (pt_val (pe_callD D_begins (hr.mono (by decide)) (by rfl) (pa_cons (pe_ix (ix_listK (K := K) rfl) (pv 0) (pv 4) (fun _ _ => rfl)) (pa_cons (pe_ix (ix_listK (K := K) rfl) (pv 0) (pv 3) (fun _ _ => rfl)) pa_nil)))) (pw_or1 (pt_val (pe_callD D_begins (hr.mono (by decide)) (by rfl) (pa_cons (pe_ix (ix_listK (K := K) rfl) (pv 0) (pv 3) (fun _ _ => rfl)) (pa_cons (pe_ix (ix_listK (K := K) rfl) (pv 0) (pv 4) (fun _ _ => rfl)) pa_nil))))))) (pss_cons (ps_raiseF D_Alike___init__ (hr.mono (by decide)) rfl tk (by rfl) (pa_cons (pv 4) (pa_cons (pv 3) pa_nil))) pss_nil) pss_nil)
    pss_nil))
    pss_nil))
    pss_nil))), fun H0 As O hS => ?_⟩
  obtain ⟨v_rows, o, rfl, h, rfl⟩ := hS
  skip
  exact db_finXN (B := fun (_ : Unit) => [.no, .no, .no, .no, .no]) (show DB ⟨fun cls d _ H => E cls d H, K⟩ H0 [sl false ((aE K) v_rows), .no, .no, .no, .no] _ (aE K) _ _ from (db_if (B1 := fun (s1 : Unit) => [sl false ((aE K) v_rows), .no, .no, .no, .no]) (dtm_not (dtm_test (dm_chI (G := leI) (G' := leI) (g := fun i j => decide (i ≤ j)) (g' := fun i j => decide (i ≤ j)) dm_int (dm_len (dm_var (A := (aE K)) (f := false) (x := v_rows) rfl)) (dm_int (i := 40)) (fun _ _ => rfl) (fun _ _ => rfl)))) db_raise (db_nx (s := ()) (.cons .same (.cons .drop (.cons .drop (.cons .drop (.cons .drop .nil)))))) (fun s1 => (db_for (vs := [1, 2]) (B1 := fun (s2 : Unit) => [sl false ((aE K) v_rows), .no, .no, .no, .no]) (s0 := ()) (dwm_enum (dm_var (A := (aE K)) (f := false) (x := v_rows) rfl)) (.cons .same (.cons .drop (.cons .drop (.cons .drop (.cons .drop .nil))))) (fun x3 s2 => (dg_t2 (dgs_cons dg_nm (dgs_cons dg_nm dgs_nil)))) (fun x3 s2 => (db_if (B1 := fun (s5 : Unit) => [sl false ((aE K) v_rows), sl false ((aE K) x3.a), sl false ((aE K) x3.b), .no, .no]) (dtm_not (dtm_B (dm_call1 bo_refl (dm_var (A := (aE K)) (f := false) (x := x3.b) rfl)))) (db_raiseF1 (x := "BadVerse") (fl := "row") (dm_up (g := true) (dm_var (A := (aE K)) (f := false) (x := x3.a) rfl))) (db_nx (s := ()) (.cons .same (.cons .same (.cons .same (.cons .drop (.cons .drop .nil)))))) (fun s5 => (db_nx (s := ()) (.cons .same (.cons .drop (.cons .drop (.cons .drop (.cons .drop .nil))))))))) (fun s2 => (db_for (vs := [3]) (B1 := fun (s6 : Unit) => [sl false ((aE K) v_rows), .no, .no, .no, .no]) (s0 := ()) (dwm_rng1 (dm_len (dm_var (A := (aE K)) (f := false) (x := v_rows) rfl))) (.cons .same (.cons .drop (.cons .drop (.cons .drop (.cons .drop .nil))))) (fun x7 s6 => dg_name) (fun x7 s6 => (db_for (vs := [4]) (B1 := fun (s12 : Unit) => [sl false ((aE K) v_rows), .no, .no, sl true ((aE K) x7), .no]) (s0 := ()) (dwm_rng1 (dm_up (g := true) (dm_var (A := (aE K)) (f := true) (x := x7) rfl))) (.cons .same (.cons .drop (.cons .drop (.cons .same (.cons .drop .nil))))) (fun x13 s12 => dg_name) (fun x13 s12 => (db_if (B1 := fun (s15 : Unit) => [sl false ((aE K) v_rows), .no, .no, sl true ((aE K) x7), sl true ((aE K) x13)]) (dtm_or (dtm_B (dm_call2 bo_refl (dm_ix (dm_var (A := (aE K)) (f := false) (x := v_rows) rfl) (dm_up (g := true) (dm_var (A := (aE K)) (f := true) (x := x13) rfl))) (dm_ix (dm_var (A := (aE K)) (f := false) (x := v_rows) rfl) (dm_up (g := true) (dm_var (A := (aE K)) (f := true) (x := x7) rfl))))) (dtm_B (dm_call2 bo_refl (dm_ix (dm_var (A := (aE K)) (f := false) (x := v_rows) rfl) (dm_up (g := true) (dm_var (A := (aE K)) (f := true) (x := x7) rfl))) (dm_ix (dm_var (A := (aE K)) (f := false) (x := v_rows) rfl) (dm_up (g := true) (dm_var (A := (aE K)) (f := true) (x := x13) rfl)))))) (db_raiseF2 (x := "Alike") (fl := "one") (gl := "other") (dm_up (g := true) (dm_var (A := (aE K)) (f := true) (x := x13) rfl)) (dm_up (g := true) (dm_var (A := (aE K)) (f := true) (x := x7) rfl))) (db_nx (s := ()) (.cons .same (.cons .drop (.cons .drop (.cons .same (.cons .same .nil)))))) (fun s15 => (db_nx (s := ()) (.cons .same (.cons .drop (.cons .drop (.cons .same (.cons .drop .nil))))))))) (fun s12 => (db_nx (s := ()) (.cons .same (.cons .drop (.cons .drop (.cons .drop (.cons .drop .nil))))))))) (fun s6 => (db_nx (s := ()) (.cons .drop (.cons .drop (.cons .drop (.cons .drop (.cons .drop .nil))))))))))))) h
theorem ok_Book___init___x (F : FnP K "__init__" "Book.__init__" s_Book___init___x f fd) (T : Txt K mg)
    (D_check_rows_x : DefAtX P w K mg base "check_rows" 3 ["rows"] (spX (sx1 K (aE K) (aE K) f_check_rows_x))) : FnOk P w K mg base (L2.CX P w) 4 f fd ["self", "verses"] (spIXR (six1 K (aE K) (oBook K) f_Book___init___x) (cBook K)) := by
  refine initXR_ok F sc_Book___init___x (fun As O h => by obtain ⟨v_verses, o, rfl, _⟩ := h; rfl) (fun cdv A outer s H E hr => ?_)
  have tk := takes_def (P := P) (w := w) (K := K) (mg := mg) (base := base) (N := ["self", "verses", "verse"]) (qual := "Book.__init__") (scope := defScope s_Book___init___x) (f := f) (cd := cdv) (A := A) (outer := outer) (s := s) (H := H) (E := E)
  refine ⟨_, (pss_cons (ps_expr (pe_callX D_check_rows_x (hr.mono (by decide)) tk (by rfl) (pa_cons (pv 1) pa_nil)))
    (pss_cons (ps_fld (pv 0) (pe_lc (own := [("verse", 2)]) (g := (gName 2)) (by rfl) sc_Book___init___x.nd (pi_listK (K := K) rfl (pv 1)) (blkOk_by (own := [("verse", 2)]) (N := ["self", "verses", "verse"]) (sc := defScope s_Book___init___x) (by decide +kernel)) (fun _ _ _ _ _ => (pg_name (i := 2) sc_Book___init___x.nd rfl (by first | exact Or.inl rfl | exact Or.inr rfl))) (fun _ _ _ _ _ => pts_nil) (fun _ _ _ _ _ => (pe_callTy (call_listK (K := K) rfl) (by rfl) T.b_list (by decide +kernel) (pa_cons (pv 2) pa_nil)))) rfl) pss_nil)), fun H0 xo dx As O hS => ?_⟩
  obtain ⟨v_verses, c, rfl, h, rfl⟩ := hS
  exact db_finIX (O := oBook K) (rest := [.no, .no]) (show DB ⟨fun cls d _ H => E cls d H, K⟩ H0 [.own (oIns xo (cBook K) dx []), sl true ((aE K) v_verses), .no] _ (aE K) _ _ from (dbx_drop (dx_call1 bo_refl (dm_var (A := (aE K)) (f := true) (x := v_verses) rfl)) (db_fldP (i := 0) (Bf := (aE K)) rfl (dm_lc (vs := [2]) (dwm_list (dm_var (A := (aE K)) (f := true) (x := v_verses) rfl)) (fun x1 => dg_name) (fun x1 => dtm_yes) (fun x1 => (dm_listF (dm_var (A := (aE K)) (f := true) (x := x1) rfl)))) T.c_Book T.n_Book_lines (fun y0 => (db_nx (B := fun (s : BookT) => .own (oIns xo (cBook K) dx (oBook K s)) :: [.no, .no]) (.cons .same (.cons .drop (.cons .drop .nil)))))))) h
theorem ok_law_is_line (F : FnP K "_law_is_line" "_law_is_line" s_law_is_line f fd) (T : Txt K mg) : FnOk P w K mg base CX0 1 f fd ["_law_line"] (spF (sp1 (aE K) (aE K) f_law_is_line)) := by
  refine fnN_ok F sc_law_is_line (fun As R h => by obtain ⟨v_law_line, c, rfl, _⟩ := h; rfl) (fun cdv A outer s H E hr => ?_)
  refine ⟨_, (pss_cons (ps_if (pt_not (pt_chain op_le op_le pe_int (pe_callB (call_lenK (K := K) rfl) (by rfl) T.b_len (by decide +kernel) (pa_cons (pv 0) pa_nil)) pe_int)) (pss_cons (ps_ret pe_bl) pss_nil) pss_nil)
    (pss_cons (ps_for PassesOwn.never rfl (pi_listK (K := K) rfl (pv 0)) (pg_name (i := 1) sc_law_is_line.nd rfl (by first | exact Or.inl rfl | exact Or.inr rfl)) (pss_cons (ps_if (PW.pt (pw_or (pt_not (pt_chain op_le op_le pe_int (pe_callB (call_lenK (K := K) rfl) (by rfl) T.b_len (by decide +kernel) (pa_cons (pv 1) pa_nil)) pe_int)) (pw_or1 (pt_not (pt_val (pe_callB (cr_allK (K := K) rfl rfl) (by rfl) T.b_all (by decide +kernel) (pa_cons (pe_lc (own := [("_law_sign", 2)]) (g := (gName 2)) (by rfl) sc_law_is_line.nd (pi_str (pv 1)) (blkOk_by (own := [("_law_sign", 2)]) (N := ["_law_line", "_law_text", "_law_sign"]) (sc := defScope s_law_is_line) (by decide +kernel)) (fun _ _ _ _ _ => (pg_name (i := 2) sc_law_is_line.nd rfl (by first | exact Or.inl rfl | exact Or.inr rfl))) (fun _ _ _ _ _ => pts_nil) (fun _ _ _ _ _ => (pe_cmpR op_in_sign (pv 2) pe_str (by rfl)))) pa_nil))))))) (pss_cons (ps_ret pe_bl) pss_nil) pss_nil)
    pss_nil))
    (pss_cons (ps_ret pe_bl) pss_nil))), fun H0 As R hS => ?_⟩
  obtain ⟨v_law_line, c, rfl, h, rfl⟩ := hS
  exact db_fin (B := fun (_ : Unit) => [.no, .no, .no]) (show DB ⟨C0.W, K⟩ H0 [sl false ((aE K) v_law_line), .no, .no] _ (aE K) _ _ from (db_if (B1 := fun (s1 : Unit) => [sl false ((aE K) v_law_line), .no, .no]) (dtm_not (dtm_test (dm_chI (G := leI) (G' := leI) (g := fun i j => decide (i ≤ j)) (g' := fun i j => decide (i ≤ j)) dm_int (dm_len (dm_var (A := (aE K)) (f := false) (x := v_law_line) rfl)) dm_int (fun _ _ => rfl) (fun _ _ => rfl)))) (db_ret dm_bl) (db_nx (s := ()) (.cons .same (.cons .drop (.cons .drop .nil)))) (fun s1 => (db_for (vs := [1]) (B1 := fun (s2 : Unit) => [sl false ((aE K) v_law_line), .no, .no]) (s0 := ()) (dwm_list (dm_var (A := (aE K)) (f := false) (x := v_law_line) rfl)) (.cons .same (.cons .drop (.cons .drop .nil))) (fun x3 s2 => dg_name) (fun x3 s2 => (db_if (B1 := fun (s7 : Unit) => [sl false ((aE K) v_law_line), sl false ((aE K) x3), .no]) (dtm_or (dtm_not (dtm_test (dm_chI (G := leI) (G' := leI) (g := fun i j => decide (i ≤ j)) (g' := fun i j => decide (i ≤ j)) dm_int (dm_lenS (dm_up (g := true) (dm_var (A := (aE K)) (f := false) (x := x3) rfl))) dm_int (fun _ _ => rfl) (fun _ _ => rfl)))) (dtm_not (dtm_B (dm_all (dm_lc (vs := [2]) (dwm_str (dm_up (g := true) (dm_var (A := (aE K)) (f := false) (x := x3) rfl))) (fun x6 => dg_name) (fun x6 => dtm_yes) (fun x6 => (dm_inStr (dm_up (g := true) (dm_var (A := (aE K)) (f := true) (x := x6) rfl)) dm_str))))))) (db_ret dm_bl) (db_nx (s := ()) (.cons .same (.cons .same (.cons .drop .nil)))) (fun s7 => (db_nx (s := ()) (.cons .same (.cons .drop (.cons .drop .nil))))))) (fun s2 => (db_ret dm_bl)))))) h
theorem ok_law_book_bad (F : FnP K "_law_book_bad" "_law_book_bad" s_law_book_bad f fd) (T : Txt K mg)
    (D_law_alike : DefAt P w K mg base "_law_alike" 1 ["_law_one", "_law_other"] (spF (sp2 (aE K) (aE K) (aE K) f_law_alike)))
    (D_law_is_line : DefAt P w K mg base "_law_is_line" 1 ["_law_line"] (spF (sp1 (aE K) (aE K) f_law_is_line))) : FnOk P w K mg base CX0 2 f fd ["_law_verses"] (spF (sp1 (aE K) (aE K) f_law_book_bad)) := by
  refine fnN_ok F sc_law_book_bad (fun As R h => by obtain ⟨v_law_verses, c, rfl, _⟩ := h; rfl) (fun cdv A outer s H E hr => ?_)
  refine ⟨_, (pss_cons (ps_if (pt_not (pt_chain op_le op_le pe_int (pe_callB (call_lenK (K := K) rfl) (by rfl) T.b_len (by decide +kernel) (pa_cons (pv 0) pa_nil)) pe_int)) (pss_cons (ps_ret (pe_tup (pa_cons pe_str (pa_cons pe_int (pa_cons pe_int pa_nil))))) pss_nil) pss_nil)
    (pss_cons (ps_for PassesOwn.never rfl (pi_range1 (by rfl) T.b_range (pa_cons (pe_callB (call_lenK (K := K) rfl) (by rfl) T.b_len (by decide +kernel) (pa_cons (pv 0) pa_nil)) pa_nil)) (pg_name (i := 1) sc_law_book_bad.nd rfl (by first | exact Or.inl rfl | exact Or.inr rfl)) (pss_cons (ps_if (pt_not (pt_val (pe_callD D_law_is_line (hr.mono (by decide)) (by rfl) (pa_cons (pe_ix (ix_listK (K := K) rfl) (pv 0) (pv 1) (fun _ _ => rfl)) pa_nil)))) (pss_cons (ps_ret (pe_tup (pa_cons pe_str (pa_cons (pv 1) (pa_cons pe_int pa_nil))))) pss_nil) pss_nil)
    pss_nil))
    (pss_cons (ps_for PassesOwn.never rfl (pi_range1 (by rfl) T.b_range (pa_cons (pe_callB (call_lenK (K := K) rfl) (by rfl) T.b_len (by decide +kernel) (pa_cons (pv 0) pa_nil)) pa_nil)) (pg_name (i := 2) sc_law_book_bad.nd rfl (by first | exact Or.inl rfl | exact Or.inr rfl)) (pss_cons (ps_for PassesOwn.never rfl (pi_range1 (by rfl) T.b_range (pa_cons (pv 2) pa_nil)) (pg_name (i := 3) sc_law_book_bad.nd rfl (by first | exact Or.inl rfl | exact Or.inr rfl)) (pss_cons (ps_if (pt_val (pe_callD D_law_alike (hr.mono (by decide)) (by rfl) (pa_cons (pe_ix (ix_listK (K := K) rfl) (pv 0) (pv 3) (fun _ _ => rfl)) (pa_cons (pe_ix (ix_listK (K := K) rfl) (pv 0) (pv 2) (fun _ _ => rfl)) pa_nil)))) (pss_cons (ps_ret (pe_tup (pa_cons pe_str (pa_cons (pv 3) (pa_cons (pv 2) pa_nil))))) pss_nil) pss_nil)
    pss_nil))
    pss_nil))
    (pss_cons (ps_ret (pe_tup (pa_cons pe_str (pa_cons pe_int (pa_cons pe_int pa_nil))))) pss_nil)))), fun H0 As R hS => ?_⟩
  obtain ⟨v_law_verses, c, rfl, h, rfl⟩ := hS
  exact db_fin (B := fun (_ : Unit) => [.no, .no, .no, .no]) (show DB ⟨C0.W, K⟩ H0 [sl false ((aE K) v_law_verses), .no, .no, .no] _ (aE K) _ _ from (db_if (B1 := fun (s1 : Unit) => [sl false ((aE K) v_law_verses), .no, .no, .no]) (dtm_not (dtm_test (dm_chI (G := leI) (G' := leI) (g := fun i j => decide (i ≤ j)) (g' := fun i j => decide (i ≤ j)) dm_int (dm_len (dm_var (A := (aE K)) (f := false) (x := v_law_verses) rfl)) dm_int (fun _ _ => rfl) (fun _ _ => rfl)))) (db_ret (dm_tup3 dm_str dm_int dm_int)) (db_nx (s := ()) (.cons .same (.cons .drop (.cons .drop (.cons .drop .nil))))) (fun s1 => (db_for (vs := [1]) (B1 := fun (s2 : Unit) => [sl false ((aE K) v_law_verses), .no, .no, .no]) (s0 := ()) (dwm_rng1 (dm_len (dm_var (A := (aE K)) (f := false) (x := v_law_verses) rfl))) (.cons .same (.cons .drop (.cons .drop (.cons .drop .nil)))) (fun x3 s2 => dg_name) (fun x3 s2 => (db_if (B1 := fun (s5 : Unit) => [sl false ((aE K) v_law_verses), sl true ((aE K) x3), .no, .no]) (dtm_not (dtm_B (dm_call1 bo_refl (dm_ix (dm_var (A := (aE K)) (f := false) (x := v_law_verses) rfl) (dm_up (g := true) (dm_var (A := (aE K)) (f := true) (x := x3) rfl)))))) (db_ret (dm_tup3 dm_str (dm_up (g := true) (dm_var (A := (aE K)) (f := true) (x := x3) rfl)) dm_int)) (db_nx (s := ()) (.cons .same (.cons .same (.cons .drop (.cons .drop .nil))))) (fun s5 => (db_nx (s := ()) (.cons .same (.cons .drop (.cons .drop (.cons .drop .nil)))))))) (fun s2 => (db_for (vs := [2]) (B1 := fun (s6 : Unit) => [sl false ((aE K) v_law_verses), .no, .no, .no]) (s0 := ()) (dwm_rng1 (dm_len (dm_var (A := (aE K)) (f := false) (x := v_law_verses) rfl))) (.cons .same (.cons .drop (.cons .drop (.cons .drop .nil)))) (fun x7 s6 => dg_name) (fun x7 s6 => (db_for (vs := [3]) (B1 := fun (s12 : Unit) => [sl false ((aE K) v_law_verses), .no, sl true ((aE K) x7), .no]) (s0 := ()) (dwm_rng1 (dm_up (g := true) (dm_var (A := (aE K)) (f := true) (x := x7) rfl))) (.cons .same (.cons .drop (.cons .same (.cons .drop .nil)))) (fun x13 s12 => dg_name) (fun x13 s12 => (db_if (B1 := fun (s15 : Unit) => [sl false ((aE K) v_law_verses), .no, sl true ((aE K) x7), sl true ((aE K) x13)]) (dtm_B (dm_call2 bo_refl (dm_ix (dm_var (A := (aE K)) (f := false) (x := v_law_verses) rfl) (dm_up (g := true) (dm_var (A := (aE K)) (f := true) (x := x13) rfl))) (dm_ix (dm_var (A := (aE K)) (f := false) (x := v_law_verses) rfl) (dm_up (g := true) (dm_var (A := (aE K)) (f := true) (x := x7) rfl))))) (db_ret (dm_tup3 dm_str (dm_up (g := true) (dm_var (A := (aE K)) (f := true) (x := x13) rfl)) (dm_up (g := true) (dm_var (A := (aE K)) (f := true) (x := x7) rfl)))) (db_nx (s := ()) (.cons .same (.cons .drop (.cons .same (.cons .same .nil))))) (fun s15 => (db_nx (s := ()) (.cons .same (.cons .drop (.cons .same (.cons .drop .nil)))))))) (fun s12 => (db_nx (s := ()) (.cons .same (.cons .drop (.cons .drop (.cons .drop .nil)))))))) (fun s6 => (db_ret (dm_tup3 dm_str dm_int dm_int))))))))) h
theorem ok_law_why_book (F : FnP K "_law_why_book" "_law_why_book" s_law_why_book f fd) (T : Txt K mg)
    (D_Book___init___x : MkAtX P w K mg base "Book" (cBook K) 4 ["self", "verses"] (spIXR (six1 K (aE K) (oBook K) f_Book___init___x) (cBook K))) : FnOk P w K mg base CX0 6 f fd ["_law_verses"] (spF (sp1 (aE K) (aE K) f_law_why_book)) := by
  refine fnN_ok F sc_law_why_book (fun As R h => by obtain ⟨v_law_verses, c, rfl, _⟩ := h; rfl) (fun cdv A outer s H E hr => ?_)
  refine ⟨_, (pss_cons (ps_set (i := 1) sc_law_why_book.nd rfl (by first | exact Or.inl rfl | exact Or.inr rfl) (pe_tup (pa_cons pe_str (pa_cons pe_int (pa_cons pe_int pa_nil)))))
    (pss_cons (ps_tryN rfl rfl takes_no (fun _ _ _ tk _ => pss_cons (ps_expr (pe_mkX D_Book___init___x (hr.mono (by decide)) tk (by rfl) (pa_cons (pv 0) pa_nil))) pss_nil) (.cons ⟨by rfl, by decide, .inl T.g_BadBook⟩ (fun _ _ _ _ _ _ _ => (pss_cons (ps_set (i := 1) sc_law_why_book.nd rfl (by first | exact Or.inl rfl | exact Or.inr rfl) (pe_tup (pa_cons pe_str (pa_cons pe_int (pa_cons pe_int pa_nil)))))
    pss_nil)) (.as (i := 2) sc_law_why_book.nd rfl (by rfl) ⟨by rfl, by decide, .inl T.g_BadVerse⟩ (fun a oe cls d pn hz hd => (pss_cons (ps_set (i := 1) sc_law_why_book.nd rfl (by first | exact Or.inl rfl | exact Or.inr rfl) (pe_tup (pa_cons pe_str (pa_cons (pe_xf T.x_BadVerse.x (T.x_BadVerse.n "row" (by simp)) hz hd (pv 2)) (pa_cons pe_int pa_nil)))))
    pss_nil)) (.as (i := 2) sc_law_why_book.nd rfl (by rfl) ⟨by rfl, by decide, .inl T.g_Alike⟩ (fun a oe cls d pn hz hd => (pss_cons (ps_set (i := 1) sc_law_why_book.nd rfl (by first | exact Or.inl rfl | exact Or.inr rfl) (pe_tup (pa_cons pe_str (pa_cons (pe_xf T.x_Alike.x (T.x_Alike.n "one" (by simp)) hz hd (pv 2)) (pa_cons (pe_xf T.x_Alike.x (T.x_Alike.n "other" (by simp)) hz hd (pv 2)) pa_nil)))))
    pss_nil)) (.cons ⟨by rfl, by decide, .inl T.g_SnatchError⟩ (fun _ _ _ _ _ _ _ => (pss_cons (ps_set (i := 1) sc_law_why_book.nd rfl (by first | exact Or.inl rfl | exact Or.inr rfl) (pe_tup (pa_cons pe_str (pa_cons pe_int (pa_cons pe_int pa_nil)))))
    pss_nil)) .nil)))))
    (pss_cons (ps_ret (pv 1)) pss_nil))), fun H0 As R hS => ?_⟩
  obtain ⟨v_law_verses, c, rfl, h, rfl⟩ := hS
  exact db_fin (B := fun (_ : Unit) => [.no, .no, .no]) (show DB ⟨C0.W, K⟩ H0 [sl false ((aE K) v_law_verses), .no, .no] _ (aE K) _ _ from (db_set (i := 1) (f := true) (Ax := (aE K)) (dm_tup3 dm_str dm_int dm_int) (fun v_law_why => (db_tryN (lx := lxn) (lc := lxc) (s0 := v_law_why) (B1 := fun (s1 : (P3 Str Int Int)) => [sl false ((aE K) v_law_verses), sl true ((aE K) s1), .no]) T.x_exm rfl (fun _ => (dx_make1 (C := cBook K) (O := oBook K) (dm_var (A := (aE K)) (f := false) (x := v_law_verses) rfl))) (.cons .same (.cons .same (.cons .drop .nil))) (.cons (c := "BadBook") (by decide) (db_set (i := 1) (f := true) (Ax := (aE K)) (dm_tup3 dm_str dm_int dm_int) (fun v_law_why => (db_nx (s := v_law_why) (.cons .same (.cons .same (.cons .drop .nil)))))) (.as (c := "BadVerse") (i := 2) (by decide) (by decide) (lt_of rfl) (fun _ => ⟨rfl, rfl⟩) (fun e a pd cls d hc hd => (db_set (i := 1) (f := true) (Ax := (aE K)) (dm_tup3 dm_str (dm_xfL (C := He.ga K "BadVerse") (i := 2) rfl hc hd) dm_int) (fun v_law_why => (db_nx (s := v_law_why) (.cons .same (.cons .same (.cons .drop .nil))))))) (fun e fl h z => by obtain ⟨en, fs⟩ := e; have z : fs = [] := z; subst z; cases (show none = some fl from h)) (.as (c := "Alike") (i := 2) (by decide) (by decide) (lt_of rfl) (fun _ => ⟨rfl, rfl⟩) (fun e a pd cls d hc hd => (db_set (i := 1) (f := true) (Ax := (aE K)) (dm_tup3 dm_str (dm_xfL (C := He.ga K "Alike") (i := 2) rfl hc hd) (dm_xfL (C := He.ga K "Alike") (i := 2) rfl hc hd)) (fun v_law_why => (db_nx (s := v_law_why) (.cons .same (.cons .same (.cons .drop .nil))))))) (fun e fl h z => by obtain ⟨en, fs⟩ := e; have z : fs = [] := z; subst z; cases (show none = some fl from h)) (.cons (c := "SnatchError") (by decide) (db_set (i := 1) (f := true) (Ax := (aE K)) (dm_tup3 dm_str dm_int dm_int) (fun v_law_why => (db_nx (s := v_law_why) (.cons .same (.cons .same (.cons .drop .nil)))))) .nil)))) (fun s1 => (db_ret (dm_var (A := (aE K)) (f := true) (x := s1) rfl))))))) h
theorem ok_law_spoilt_book (F : FnP K "_law_spoilt_book" "_law_spoilt_book" s_law_spoilt_book f fd) (T : Txt K mg) : FnOk P w K mg base CX0 1 f fd ["_law_verses", "_law_d"] (spR (sp2 (aE K) (aE K) (aE K) f_law_spoilt_book)) := by
  refine fnR_ok F sc_law_spoilt_book (fun As R h => by obtain ⟨v_law_verses, v_law_d, c, rfl, _⟩ := h; rfl) (fun cdv A outer s H E hr => ?_)
  refine ⟨_, (pss_cons (ps_set (i := 2) sc_law_spoilt_book.nd rfl (by first | exact Or.inl rfl | exact Or.inr rfl) (pe_op op_mod (pe_ix (ix_listK (K := K) rfl) (pv 1) pe_int (fun _ _ => rfl)) (pe_op op_add (pe_callB (call_lenK (K := K) rfl) (by rfl) T.b_len (by decide +kernel) (pa_cons (pv 0) pa_nil)) pe_int)))
    (pss_cons (ps_set (i := 3) sc_law_spoilt_book.nd rfl (by first | exact Or.inl rfl | exact Or.inr rfl) (pe_ix (ix_listK (K := K) rfl) (pv 0) (pe_op op_mod (pe_ix (ix_listK (K := K) rfl) (pv 1) pe_int (fun _ _ => rfl)) (pe_callB (call_lenK (K := K) rfl) (by rfl) T.b_len (by decide +kernel) (pa_cons (pv 0) pa_nil))) (fun _ _ => rfl)))
    (pss_cons (ps_set (i := 4) sc_law_spoilt_book.nd rfl (by first | exact Or.inl rfl | exact Or.inr rfl) (pe_op op_mod (pe_ix (ix_listK (K := K) rfl) (pv 1) pe_int (fun _ _ => rfl)) (pe_callB (call_max2 rfl) (by rfl) T.b_max (by decide +kernel) (pa_cons pe_int (pa_cons (pe_callB (call_lenK (K := K) rfl) (by rfl) T.b_len (by decide +kernel) (pa_cons (pv 3) pa_nil)) pa_nil)))))
    (pss_cons (ps_if (pt_cmpR op_eq (pe_op op_mod (pe_ix (ix_listK (K := K) rfl) (pv 1) pe_int (fun _ _ => rfl)) pe_int) pe_int (nomark _)) (pss_cons (ps_set (i := 5) sc_law_spoilt_book.nd rfl (by first | exact Or.inl rfl | exact Or.inr rfl) (pe_ix (ix_listK (K := K) rfl) (pe_lst (pa_cons pe_str (pa_cons pe_str (pa_cons pe_str (pa_cons pe_str (pa_cons pe_str (pa_cons pe_str (pa_cons pe_str (pa_cons pe_str (pa_cons pe_str pa_nil)))))))))) (pe_op op_mod (pe_ix (ix_listK (K := K) rfl) (pv 1) pe_int (fun _ _ => rfl)) pe_int) (fun _ _ => rfl)))
    (pss_cons (ps_set (i := 3) sc_law_spoilt_book.nd rfl (by first | exact Or.inl rfl | exact Or.inr rfl) (pe_op (op_catK (K := K) rfl) (pe_op (op_catK (K := K) rfl) (pe_slice (sl_listK (K := K) rfl) (pv 3) po_none (po_some (pv 4))) (pe_lst (pa_cons (pv 5) pa_nil))) (pe_slice (sl_listK (K := K) rfl) (pv 3) (po_some (pe_op op_add (pv 4) pe_int)) po_none)))
    (pss_cons (ps_ret (pe_op (op_catK (K := K) rfl) (pe_op (op_catK (K := K) rfl) (pe_slice (sl_listK (K := K) rfl) (pv 0) po_none (po_some (pv 2))) (pe_lst (pa_cons (pv 3) pa_nil))) (pe_slice (sl_listK (K := K) rfl) (pv 0) (po_some (pv 2)) po_none))) pss_nil))) pss_nil)
    (pss_cons (ps_if (pt_cmpR op_eq (pe_op op_mod (pe_ix (ix_listK (K := K) rfl) (pv 1) pe_int (fun _ _ => rfl)) pe_int) pe_int (nomark _)) (pss_cons (ps_ret (pe_op (op_catK (K := K) rfl) (pe_op (op_catK (K := K) rfl) (pe_slice (sl_listK (K := K) rfl) (pv 0) po_none (po_some (pv 2))) (pe_lst (pa_cons (pe_slice (sl_listK (K := K) rfl) (pv 3) po_none (po_some (pv 4))) pa_nil))) (pe_slice (sl_listK (K := K) rfl) (pv 0) (po_some (pv 2)) po_none))) pss_nil) pss_nil)
    (pss_cons (ps_if (pt_cmpR op_eq (pe_op op_mod (pe_ix (ix_listK (K := K) rfl) (pv 1) pe_int (fun _ _ => rfl)) pe_int) pe_int (nomark _)) (pss_cons (ps_ret (pe_op (op_catK (K := K) rfl) (pe_op (op_catK (K := K) rfl) (pe_slice (sl_listK (K := K) rfl) (pv 0) po_none (po_some (pv 2))) (pe_lst (pa_cons (pe_op (op_catK (K := K) rfl) (pv 3) (pe_op op_rep (pe_lst (pa_cons pe_str pa_nil)) (pe_op op_mod (pe_ix (ix_listK (K := K) rfl) (pv 1) pe_int (fun _ _ => rfl)) pe_int))) pa_nil))) (pe_slice (sl_listK (K := K) rfl) (pv 0) (po_some (pv 2)) po_none))) pss_nil) pss_nil)
    (pss_cons (ps_if (pt_cmpR op_eq (pe_op op_mod (pe_ix (ix_listK (K := K) rfl) (pv 1) pe_int (fun _ _ => rfl)) pe_int) pe_int (nomark _)) (pss_cons (ps_ret (pe_op (op_catK (K := K) rfl) (pe_op (op_catK (K := K) rfl) (pe_slice (sl_listK (K := K) rfl) (pv 0) po_none (po_some (pv 2))) (pe_lst (pa_cons (pe_op (op_catK (K := K) rfl) (pe_slice (sl_listK (K := K) rfl) (pv 3) po_none (po_some (pv 4))) (pe_slice (sl_listK (K := K) rfl) (pe_lst (pa_cons pe_str (pa_cons pe_str pa_nil))) po_none (po_some (pe_op op_mod (pe_ix (ix_listK (K := K) rfl) (pv 1) pe_int (fun _ _ => rfl)) pe_int)))) pa_nil))) (pe_slice (sl_listK (K := K) rfl) (pv 0) (po_some (pv 2)) po_none))) pss_nil) pss_nil)
    (pss_cons (ps_if (pt_cmpR op_eq (pe_op op_mod (pe_ix (ix_listK (K := K) rfl) (pv 1) pe_int (fun _ _ => rfl)) pe_int) pe_int (nomark _)) (pss_cons (ps_ret (pe_op (op_catK (K := K) rfl) (pe_op (op_catK (K := K) rfl) (pe_slice (sl_listK (K := K) rfl) (pv 0) po_none (po_some (pv 2))) (pe_lst (pa_cons (pe_lst (pa_cons pe_str (pa_cons (pe_op op_mulSg pe_str (pe_op op_add pe_int (pe_op op_mod (pe_ix (ix_listK (K := K) rfl) (pv 1) pe_int (fun _ _ => rfl)) pe_int))) pa_nil))) pa_nil))) (pe_slice (sl_listK (K := K) rfl) (pv 0) (po_some (pv 2)) po_none))) pss_nil) pss_nil)
    (pss_cons (ps_ret (pe_op (op_catK (K := K) rfl) (pv 0) (pe_lc (own := [("_law_verse_here", 6)]) (g := (gName 6)) (by rfl) sc_law_spoilt_book.nd (pi_listK (K := K) rfl (pv 0)) (blkOk_by (own := [("_law_verse_here", 6)]) (N := ["_law_verses", "_law_d", "_law_at", "_law_line", "_law_here", "_law_odd", "_law_verse_here"]) (sc := defScope s_law_spoilt_book) (by decide +kernel)) (fun _ _ _ _ _ => (pg_name (i := 6) sc_law_spoilt_book.nd rfl (by first | exact Or.inl rfl | exact Or.inr rfl))) (fun _ _ _ _ _ => pts_nil) (fun _ _ _ _ _ => (pe_op (op_catK (K := K) rfl) (pe_lst (pa_cons pe_str pa_nil)) (pe_slice (sl_listK (K := K) rfl) (pv 6) po_none (po_some pe_int))))))) pss_nil))))))))), fun H0 As R hS => ?_⟩
  obtain ⟨v_law_verses, v_law_d, c, rfl, h, rfl⟩ := hS
  exact db_fin (B := fun (_ : Unit) => [.no, .no, .no, .no, .no, .no, .no]) (show DB ⟨C0.W, K⟩ H0 [sl true ((aE K) v_law_verses), sl true ((aE K) v_law_d), .no, .no, .no, .no, .no] _ (aE K) _ _ from (db_set (i := 2) (f := true) (Ax := (aE K)) (dm_mod (dm_ixF (dm_var (A := (aE K)) (f := true) (x := v_law_d) rfl) dm_int) (dm_add (dm_len (dm_var (A := (aE K)) (f := true) (x := v_law_verses) rfl)) dm_int)) (fun v_law_at => (db_set (i := 3) (f := true) (Ax := (aE K)) (dm_ix (dm_var (A := (aE K)) (f := true) (x := v_law_verses) rfl) (dm_mod (dm_ixF (dm_var (A := (aE K)) (f := true) (x := v_law_d) rfl) dm_int) (dm_len (dm_var (A := (aE K)) (f := true) (x := v_law_verses) rfl)))) (fun v_law_line => (db_set (i := 4) (f := true) (Ax := (aE K)) (dm_mod (dm_ixF (dm_var (A := (aE K)) (f := true) (x := v_law_d) rfl) dm_int) (dm_max dm_int (dm_len (dm_var (A := (aE K)) (f := true) (x := v_law_line) rfl)))) (fun v_law_here => (db_if (B1 := fun (s1 : (List Str)) => [sl true ((aE K) v_law_verses), sl true ((aE K) v_law_d), sl true ((aE K) v_law_at), sl true ((aE K) s1), sl true ((aE K) v_law_here), .no, .no]) (dtm_test (dm_eqI (dm_mod (dm_ixF (dm_var (A := (aE K)) (f := true) (x := v_law_d) rfl) dm_int) dm_int) dm_int)) (db_set (i := 5) (f := true) (Ax := (aE K)) (dm_ixF (dm_lst (f := true) (dam_cons dm_str (dam_cons dm_str (dam_cons dm_str (dam_cons dm_str (dam_cons dm_str (dam_cons dm_str (dam_cons dm_str (dam_cons dm_str (dam_cons dm_str (dam_nil (α := Str)))))))))))) (dm_mod (dm_ixF (dm_var (A := (aE K)) (f := true) (x := v_law_d) rfl) dm_int) dm_int)) (fun v_law_odd => (db_set (i := 3) (f := true) (Ax := (aE K)) (dm_cat (dm_cat (dm_slF (dm_var (A := (aE K)) (f := true) (x := v_law_line) rfl) dom_no (dom_so (dm_up (g := true) (dm_var (A := (aE K)) (f := true) (x := v_law_here) rfl)))) (dm_lst (f := true) (dam_cons (dm_up (g := true) (dm_var (A := (aE K)) (f := true) (x := v_law_odd) rfl)) (dam_nil (α := Str))))) (dm_slF (dm_var (A := (aE K)) (f := true) (x := v_law_line) rfl) (dom_so (dm_add (dm_up (g := true) (dm_var (A := (aE K)) (f := true) (x := v_law_here) rfl)) dm_int)) dom_no)) (fun v_law_line => (db_ret (dm_cat (dm_cat (dm_sl (dm_var (A := (aE K)) (f := true) (x := v_law_verses) rfl) dom_no (dom_so (dm_up (g := true) (dm_var (A := (aE K)) (f := true) (x := v_law_at) rfl)))) (dm_lst (f := true) (dam_cons (dm_var (A := (aE K)) (f := true) (x := v_law_line) rfl) (dam_nil (α := (List Str)))))) (dm_sl (dm_var (A := (aE K)) (f := true) (x := v_law_verses) rfl) (dom_so (dm_up (g := true) (dm_var (A := (aE K)) (f := true) (x := v_law_at) rfl))) dom_no))))))) (db_nx (s := v_law_line) (.cons .same (.cons .same (.cons .same (.cons .same (.cons .same (.cons .drop (.cons .drop .nil)))))))) (fun s1 => (db_if (B1 := fun (s2 : Unit) => [sl true ((aE K) v_law_verses), sl true ((aE K) v_law_d), sl true ((aE K) v_law_at), sl true ((aE K) s1), sl true ((aE K) v_law_here), .no, .no]) (dtm_test (dm_eqI (dm_mod (dm_ixF (dm_var (A := (aE K)) (f := true) (x := v_law_d) rfl) dm_int) dm_int) dm_int)) (db_ret (dm_cat (dm_cat (dm_sl (dm_var (A := (aE K)) (f := true) (x := v_law_verses) rfl) dom_no (dom_so (dm_up (g := true) (dm_var (A := (aE K)) (f := true) (x := v_law_at) rfl)))) (dm_lst (f := true) (dam_cons (dm_slF (dm_var (A := (aE K)) (f := true) (x := s1) rfl) dom_no (dom_so (dm_up (g := true) (dm_var (A := (aE K)) (f := true) (x := v_law_here) rfl)))) (dam_nil (α := (List Str)))))) (dm_sl (dm_var (A := (aE K)) (f := true) (x := v_law_verses) rfl) (dom_so (dm_up (g := true) (dm_var (A := (aE K)) (f := true) (x := v_law_at) rfl))) dom_no))) (db_nx (s := ()) (.cons .same (.cons .same (.cons .same (.cons .same (.cons .same (.cons .drop (.cons .drop .nil)))))))) (fun s2 => (db_if (B1 := fun (s3 : Unit) => [sl true ((aE K) v_law_verses), sl true ((aE K) v_law_d), sl true ((aE K) v_law_at), sl true ((aE K) s1), sl true ((aE K) v_law_here), .no, .no]) (dtm_test (dm_eqI (dm_mod (dm_ixF (dm_var (A := (aE K)) (f := true) (x := v_law_d) rfl) dm_int) dm_int) dm_int)) (db_ret (dm_cat (dm_cat (dm_sl (dm_var (A := (aE K)) (f := true) (x := v_law_verses) rfl) dom_no (dom_so (dm_up (g := true) (dm_var (A := (aE K)) (f := true) (x := v_law_at) rfl)))) (dm_lst (f := true) (dam_cons (dm_cat (dm_var (A := (aE K)) (f := true) (x := s1) rfl) (dm_rep1 dm_str (dm_mod (dm_ixF (dm_var (A := (aE K)) (f := true) (x := v_law_d) rfl) dm_int) dm_int))) (dam_nil (α := (List Str)))))) (dm_sl (dm_var (A := (aE K)) (f := true) (x := v_law_verses) rfl) (dom_so (dm_up (g := true) (dm_var (A := (aE K)) (f := true) (x := v_law_at) rfl))) dom_no))) (db_nx (s := ()) (.cons .same (.cons .same (.cons .same (.cons .same (.cons .same (.cons .drop (.cons .drop .nil)))))))) (fun s3 => (db_if (B1 := fun (s4 : Unit) => [sl true ((aE K) v_law_verses), sl true ((aE K) v_law_d), sl true ((aE K) v_law_at), sl true ((aE K) s1), sl true ((aE K) v_law_here), .no, .no]) (dtm_test (dm_eqI (dm_mod (dm_ixF (dm_var (A := (aE K)) (f := true) (x := v_law_d) rfl) dm_int) dm_int) dm_int)) (db_ret (dm_cat (dm_cat (dm_sl (dm_var (A := (aE K)) (f := true) (x := v_law_verses) rfl) dom_no (dom_so (dm_up (g := true) (dm_var (A := (aE K)) (f := true) (x := v_law_at) rfl)))) (dm_lst (f := true) (dam_cons (dm_cat (dm_slF (dm_var (A := (aE K)) (f := true) (x := s1) rfl) dom_no (dom_so (dm_up (g := true) (dm_var (A := (aE K)) (f := true) (x := v_law_here) rfl)))) (dm_slF (dm_lst (f := true) (dam_cons dm_str (dam_cons dm_str (dam_nil (α := Str))))) dom_no (dom_so (dm_mod (dm_ixF (dm_var (A := (aE K)) (f := true) (x := v_law_d) rfl) dm_int) dm_int)))) (dam_nil (α := (List Str)))))) (dm_sl (dm_var (A := (aE K)) (f := true) (x := v_law_verses) rfl) (dom_so (dm_up (g := true) (dm_var (A := (aE K)) (f := true) (x := v_law_at) rfl))) dom_no))) (db_nx (s := ()) (.cons .same (.cons .same (.cons .same (.cons .same (.cons .same (.cons .drop (.cons .drop .nil)))))))) (fun s4 => (db_if (B1 := fun (s5 : Unit) => [sl true ((aE K) v_law_verses), sl true ((aE K) v_law_d), sl true ((aE K) v_law_at), sl true ((aE K) s1), sl true ((aE K) v_law_here), .no, .no]) (dtm_test (dm_eqI (dm_mod (dm_ixF (dm_var (A := (aE K)) (f := true) (x := v_law_d) rfl) dm_int) dm_int) dm_int)) (db_ret (dm_cat (dm_cat (dm_sl (dm_var (A := (aE K)) (f := true) (x := v_law_verses) rfl) dom_no (dom_so (dm_up (g := true) (dm_var (A := (aE K)) (f := true) (x := v_law_at) rfl)))) (dm_lst (f := true) (dam_cons (dm_lst (f := true) (dam_cons dm_str (dam_cons (dm_mulS dm_str (dm_add dm_int (dm_mod (dm_ixF (dm_var (A := (aE K)) (f := true) (x := v_law_d) rfl) dm_int) dm_int))) (dam_nil (α := Str))))) (dam_nil (α := (List Str)))))) (dm_sl (dm_var (A := (aE K)) (f := true) (x := v_law_verses) rfl) (dom_so (dm_up (g := true) (dm_var (A := (aE K)) (f := true) (x := v_law_at) rfl))) dom_no))) (db_nx (s := ()) (.cons .same (.cons .same (.cons .same (.cons .same (.cons .same (.cons .drop (.cons .drop .nil)))))))) (fun s5 => (db_ret (dm_cat (dm_var (A := (aE K)) (f := true) (x := v_law_verses) rfl) (dm_lc (vs := [6]) (dwm_list (dm_var (A := (aE K)) (f := true) (x := v_law_verses) rfl)) (fun x6 => dg_name) (fun x6 => dtm_yes) (fun x6 => (dm_cat (dm_lst (f := true) (dam_cons dm_str (dam_nil (α := Str)))) (dm_slF (dm_var (A := (aE K)) (f := true) (x := x6) rfl) dom_no (dom_so dm_int)))))))))))))))))))))))) h
theorem ok_law (F : FnP K "law" "law" s_law f fd) (T : Txt K mg)
    (D_law_numbers : DefAt P w K mg base "_law_numbers" 1 ["_law_script", "_law_many"] (spF (sp2 (aE K) (aE K) (aE K) f_law_numbers)))
    (D_law_same : DefAt P w K mg base "_law_same" 9 ["_law_found", "_law_due"] (spF (S_same K 9)))
    (D_law_book : DefAt P w K mg base "_law_book" 3 ["_law_d", "_law_most"] (spF (sp2 (aE K) (aE K) (aE K) f_law_book)))
    (D_law_copy : DefAt P w K mg base "_law_copy" 1 ["_law_rows"] (spF (sp1 (aE K) (aE K) f_law_copy)))
    (D_law_book_bad : DefAt P w K mg base "_law_book_bad" 2 ["_law_verses"] (spF (sp1 (aE K) (aE K) f_law_book_bad)))
    (D_law_why_book : DefAt P w K mg base "_law_why_book" 6 ["_law_verses"] (spF (sp1 (aE K) (aE K) f_law_why_book)))
    (D_law_spoilt_book : DefAt P w K mg base "_law_spoilt_book" 1 ["_law_verses", "_law_d"] (spR (sp2 (aE K) (aE K) (aE K) f_law_spoilt_book))) (hL : ∀ ns : List Int, ns.length ≤ 63 → f_law ns = some true) : FnOk P w K mg base CX0 10 f fd ["_law_script"] (spL K) := by
  refine lawM_ok F sc_law hL (fun cdv A outer s H E hr => ?_)
  refine ⟨_, (pss_cons (ps_set (i := 1) sc_law.nd rfl (by first | exact Or.inl rfl | exact Or.inr rfl) (pe_callD D_law_numbers (hr.mono (by decide)) (by rfl) (pa_cons (pv 0) (pa_cons pe_int pa_nil))))
    (pss_cons (ps_set (i := 2) sc_law.nd rfl (by first | exact Or.inl rfl | exact Or.inr rfl) (pe_callD D_law_book (hr.mono (by decide)) (by rfl) (pa_cons (pe_slice (sl_listK (K := K) rfl) (pv 1) (po_some pe_int) po_none) (pa_cons (pe_ix (ix_listK (K := K) rfl) (pe_lst (pa_cons pe_int (pa_cons pe_int (pa_cons pe_int pa_nil)))) (pe_op op_mod (pe_ix (ix_listK (K := K) rfl) (pv 1) pe_int (fun _ _ => rfl)) pe_int) (fun _ _ => rfl)) pa_nil))))
    (pss_cons (ps_for PassesOwn.never rfl (pi_range1 (by rfl) T.b_range (pa_cons (pe_op op_mod (pe_ix (ix_listK (K := K) rfl) (pv 1) pe_int (fun _ _ => rfl)) pe_int) pa_nil)) (pg_name (i := 3) sc_law.nd rfl (by first | exact Or.inl rfl | exact Or.inr rfl)) (pss_cons (ps_set (i := 2) sc_law.nd rfl (by first | exact Or.inl rfl | exact Or.inr rfl) (pe_callD D_law_spoilt_book (hr.mono (by decide)) (by rfl) (pa_cons (pv 2) (pa_cons (pe_slice (sl_listK (K := K) rfl) (pv 1) (po_some (pe_op op_add pe_int (pe_op op_mul pe_int (pv 3)))) po_none) pa_nil))))
    pss_nil))
    (pss_cons (ps_if (pt_cmpR op_eq (pe_op op_mod (pe_ix (ix_listK (K := K) rfl) (pv 1) pe_int (fun _ _ => rfl)) pe_int) pe_int (nomark _)) (pss_cons (ps_set (i := 2) sc_law.nd rfl (by first | exact Or.inl rfl | exact Or.inr rfl) (pe_lst pa_nil))
    pss_nil) pss_nil)
    (pss_cons (ps_set (i := 4) sc_law.nd rfl (by first | exact Or.inl rfl | exact Or.inr rfl) (pe_callD D_law_copy (hr.mono (by decide)) (by rfl) (pa_cons (pv 2) pa_nil)))
    (pss_cons (ps_ret (pe_and (pe_callD D_law_same (hr.mono (by decide)) (by rfl) (pa_cons (pe_callD D_law_why_book (hr.mono (by decide)) (by rfl) (pa_cons (pv 4) pa_nil)) (pa_cons (pe_callD D_law_book_bad (hr.mono (by decide)) (by rfl) (pa_cons (pv 2) pa_nil)) pa_nil))) (pe_one (pe_cmpR (op_eqPK (K := K) rfl hr.units) (pv 4) (pv 2) (nomark _))))) pss_nil)))))), fun H0 As R hS => ?_⟩
  obtain ⟨v_law_script, c, rfl, h, rfl⟩ := hS
  exact db_fin (B := fun (_ : Unit) => [.no, .no, .no, .no, .no]) (show DB ⟨C0.W, K⟩ H0 [sl false ((aE K) v_law_script), .no, .no, .no, .no] _ (aE K) _ _ from (db_set (i := 1) (f := true) (Ax := (aE K)) (dm_call2 bo_refl (dm_var (A := (aE K)) (f := false) (x := v_law_script) rfl) dm_int) (fun v_law_numbers_here => (db_set (i := 2) (f := true) (Ax := (aE K)) (dm_call2 bo_refl (dm_slF (dm_var (A := (aE K)) (f := true) (x := v_law_numbers_here) rfl) (dom_so dm_int) dom_no) (dm_ixF (dm_lst (f := true) (dam_cons dm_int (dam_cons dm_int (dam_cons dm_int (dam_nil (α := Int)))))) (dm_mod (dm_ixF (dm_var (A := (aE K)) (f := true) (x := v_law_numbers_here) rfl) dm_int) dm_int))) (fun v_law_verses => (db_for (vs := [3]) (B1 := fun (s1 : (List (List Str))) => [sl false ((aE K) v_law_script), sl true ((aE K) v_law_numbers_here), sl true ((aE K) s1), .no, .no]) (s0 := v_law_verses) (dwm_rng1 (dm_mod (dm_ixF (dm_var (A := (aE K)) (f := true) (x := v_law_numbers_here) rfl) dm_int) dm_int)) (.cons .same (.cons .same (.cons .same (.cons .drop (.cons .drop .nil))))) (fun x2 s1 => dg_name) (fun x2 s1 => (db_set (i := 2) (f := true) (Ax := (aE K)) (dm_callR2 (dm_var (A := (aE K)) (f := true) (x := s1) rfl) (dm_slF (dm_var (A := (aE K)) (f := true) (x := v_law_numbers_here) rfl) (dom_so (dm_add dm_int (dm_mul dm_int (dm_up (g := true) (dm_var (A := (aE K)) (f := true) (x := x2) rfl))))) dom_no)) (fun v_law_verses => (db_nx (s := v_law_verses) (.cons .same (.cons .same (.cons .same (.cons .drop (.cons .drop .nil))))))))) (fun s1 => (db_if (B1 := fun (s3 : (List (List Str))) => [sl false ((aE K) v_law_script), sl true ((aE K) v_law_numbers_here), sl true ((aE K) s3), .no, .no]) (dtm_test (dm_eqI (dm_mod (dm_ixF (dm_var (A := (aE K)) (f := true) (x := v_law_numbers_here) rfl) dm_int) dm_int) dm_int)) (db_set (i := 2) (f := true) (Ax := (aE K)) (dm_lst (f := true) (dam_nil (α := (List Str)))) (fun v_law_verses => (db_nx (s := v_law_verses) (.cons .same (.cons .same (.cons .same (.cons .drop (.cons .drop .nil)))))))) (db_nx (s := s1) (.cons .same (.cons .same (.cons .same (.cons .drop (.cons .drop .nil)))))) (fun s3 => (db_set (i := 4) (f := true) (Ax := (aE K)) (dm_call1 bo_refl (dm_var (A := (aE K)) (f := true) (x := s3) rfl)) (fun v_law_handed => (db_ret (dm_and (dm_same bo_refl (dm_call1 bo_refl (dm_var (A := (aE K)) (f := true) (x := v_law_handed) rfl)) (dm_call1 bo_refl (dm_var (A := (aE K)) (f := true) (x := s3) rfl))) (dm_eqP (dm_var (A := (aE K)) (f := true) (x := v_law_handed) rfl) (dm_var (A := (aE K)) (f := true) (x := s3) rfl) (by decide))))))))))))))) h
end
end Kj

set_option Elab.async false
set_option linter.all false
set_option maxRecDepth 100000
set_option maxHeartbeats 0
namespace Kj
open PySem PySem.Spec PyProof.Rows L2
def d_law_numbers : He.DefD := ⟨("_law_numbers", none), "_law_numbers", "_law_numbers", defArgs s_law_numbers, defBody s_law_numbers, defScope s_law_numbers, [], []⟩
def d_law_same : He.DefD := ⟨("_law_same", none), "_law_same", "_law_same", defArgs s_law_same, defBody s_law_same, defScope s_law_same, [], []⟩
def d_law_sound : He.DefD := ⟨("_law_sound", none), "_law_sound", "_law_sound", defArgs s_law_sound, defBody s_law_sound, defScope s_law_sound, [], []⟩
def d_law_pool : He.DefD := ⟨("_law_pool", none), "_law_pool", "_law_pool", defArgs s_law_pool, defBody s_law_pool, defScope s_law_pool, [], []⟩
def d_law_alike : He.DefD := ⟨("_law_alike", none), "_law_alike", "_law_alike", defArgs s_law_alike, defBody s_law_alike, defScope s_law_alike, [], []⟩
def d_law_verse : He.DefD := ⟨("_law_verse", none), "_law_verse", "_law_verse", defArgs s_law_verse, defBody s_law_verse, defScope s_law_verse, [], []⟩
def d_law_wide : He.DefD := ⟨("_law_wide", none), "_law_wide", "_law_wide", defArgs s_law_wide, defBody s_law_wide, defScope s_law_wide, [], []⟩
def d_law_book : He.DefD := ⟨("_law_book", none), "_law_book", "_law_book", defArgs s_law_book, defBody s_law_book, defScope s_law_book, [], []⟩
def d_law_copy : He.DefD := ⟨("_law_copy", none), "_law_copy", "_law_copy", defArgs s_law_copy, defBody s_law_copy, defScope s_law_copy, [], []⟩
def d_is_syllable : He.DefD := ⟨("is_syllable", none), "is_syllable", "is_syllable", defArgs s_is_syllable, defBody s_is_syllable, defScope s_is_syllable, [], []⟩
def d_is_verse : He.DefD := ⟨("is_verse", none), "is_verse", "is_verse", defArgs s_is_verse, defBody s_is_verse, defScope s_is_verse, [], []⟩
def d_begins : He.DefD := ⟨("begins", none), "begins", "begins", defArgs s_begins, defBody s_begins, defScope s_begins, [], []⟩
def d_BadVerse___init__ : He.DefD := ⟨("BadVerse", some "__init__"), "__init__", "BadVerse.__init__", defArgs s_BadVerse___init__, defBody s_BadVerse___init__, defScope s_BadVerse___init__, [], []⟩
def d_Alike___init__ : He.DefD := ⟨("Alike", some "__init__"), "__init__", "Alike.__init__", defArgs s_Alike___init__, defBody s_Alike___init__, defScope s_Alike___init__, [], []⟩
def d_check_rows_x : He.DefD := ⟨("check_rows", none), "check_rows", "check_rows", defArgs s_check_rows_x, defBody s_check_rows_x, defScope s_check_rows_x, [], []⟩
def d_Book___init___x : He.DefD := ⟨("Book", some "__init__"), "__init__", "Book.__init__", defArgs s_Book___init___x, defBody s_Book___init___x, defScope s_Book___init___x, [], []⟩
def d_law_is_line : He.DefD := ⟨("_law_is_line", none), "_law_is_line", "_law_is_line", defArgs s_law_is_line, defBody s_law_is_line, defScope s_law_is_line, [], []⟩
def d_law_book_bad : He.DefD := ⟨("_law_book_bad", none), "_law_book_bad", "_law_book_bad", defArgs s_law_book_bad, defBody s_law_book_bad, defScope s_law_book_bad, [], []⟩
def d_law_why_book : He.DefD := ⟨("_law_why_book", none), "_law_why_book", "_law_why_book", defArgs s_law_why_book, defBody s_law_why_book, defScope s_law_why_book, [], []⟩
def d_law_spoilt_book : He.DefD := ⟨("_law_spoilt_book", none), "_law_spoilt_book", "_law_spoilt_book", defArgs s_law_spoilt_book, defBody s_law_spoilt_book, defScope s_law_spoilt_book, [], []⟩
def d_law : He.DefD := ⟨("law", none), "law", "law", defArgs s_law, defBody s_law, defScope s_law, [], []⟩
def fn : List He.DefD := [d_law_numbers, d_law_same, d_law_sound, d_law_pool, d_law_alike, d_law_verse, d_law_wide, d_law_book, d_law_copy, d_is_syllable, d_is_verse, d_begins, d_BadVerse___init__, d_Alike___init__, d_check_rows_x, d_Book___init___x, d_law_is_line, d_law_book_bad, d_law_why_book, d_law_spoilt_book, d_law]
def fa : List He.Fa := [.glo "Alike", .glo "BadBook", .glo "BadVerse", .glo "SnatchError", .exc "BadBook", .glo "_law_numbers", .glo "_law_same", .glo "_law_sound", .glo "_law_pool", .glo "_law_alike", .glo "_law_verse", .glo "_law_wide", .glo "_law_book", .glo "_law_copy", .glo "is_syllable", .glo "is_verse", .glo "begins", .glo "check_rows", .glo "_law_is_line", .glo "_law_book_bad", .glo "_law_why_book", .glo "_law_spoilt_book", .glo "law", .glo "Alike", .glo "BadVerse", .glo "Book", .free "all", .free "bool", .free "enumerate", .free "int", .free "isinstance", .free "len", .free "list", .free "max", .free "min", .free "range", .free "str", .free "tuple", .free "zip", .int "MOST_LETTERS" 3, .int "MOST_SYLLABLES" 8, .int "MOST_VERSES" 40, .cls "Book", .noat "Book" "lines", .mkr "Book"]
abbrev RR : PySem.W.OpenRow := PySem.W.OpenLaw.row PySem.Challenge.rw_kimariji_k04_books_refused
def exK (K : PySem.W.Frag) : Bool := (exmB K lxn lxc && (oexB K (He.ga K "Alike") ["one", "other"] && oexB K (He.ga K "BadVerse") ["row"]))
abbrev hk : PySem.W.Hook := He.hookB 4 fa fn exK
def ob (s : PySem.W.SharedT) : He.AlD × Bool := He.obsBG 4 fa fn exK (HandSHeadRun.getT s)
theorem ob_eq (s : PySem.W.SharedT) : ob s = hk.obs s.abs := He.obsBG_eq (HandSHeadRun.getT_eq s)
theorem run (w : World) : HandSHeadRun.RunEq RR (PySem.W.view RR.prog [30]) hk ob 8000 ["SnatchError", "BadBook", "BadVerse", "Alike", "NoVerse", "Book", "check_rows", "is_verse", "is_syllable", "begins", "check_verse", "_law_numbers", "_law_same", "_law_sound", "_law_pool", "_law_alike", "_law_verse", "_law_wide", "_law_book", "_law_copy", "_law_is_line", "_law_book_bad", "_law_why_book", "_law_spoilt_book", "MOST_VERSES", "MOST_SYLLABLES", "MOST_LETTERS"] w := by
  intro os
  kernel_rfl
theorem facts {P : Program} {w : World} {K : PySem.W.Frag} {h : Heap} {mg : Str → Option Value} {f : Addr} (X : K.In h) (G : h.Ns mainGlobals mg) (hfa : mg ("law" : Str) = some (.ref f)) (c : He.SaysD fa fn K) (cx : exK K = true) :
    ∃ fd : FuncData, (∀ (s : Shared) (v : Value), BindsTo s fd ⟨[v], []⟩ [("_law_script", v)]) ∧ ∀ base : Heap, K.In base → base.Ns mainGlobals mg → FnOk P w K mg base CX0 10 f fd ["_law_script"] (spL K) := by
  obtain ⟨fd_law_numbers, F_law_numbers⟩ := c.def_ 0 (d := d_law_numbers) rfl
  have g_law_numbers := He.glo_ok X G (c.fact 5 (f := .glo "_law_numbers") rfl)
  obtain ⟨fd_law_same, F_law_same⟩ := c.def_ 1 (d := d_law_same) rfl
  have g_law_same := He.glo_ok X G (c.fact 6 (f := .glo "_law_same") rfl)
  obtain ⟨fd_law_sound, F_law_sound⟩ := c.def_ 2 (d := d_law_sound) rfl
  have g_law_sound := He.glo_ok X G (c.fact 7 (f := .glo "_law_sound") rfl)
  obtain ⟨fd_law_pool, F_law_pool⟩ := c.def_ 3 (d := d_law_pool) rfl
  have g_law_pool := He.glo_ok X G (c.fact 8 (f := .glo "_law_pool") rfl)
  obtain ⟨fd_law_alike, F_law_alike⟩ := c.def_ 4 (d := d_law_alike) rfl
  have g_law_alike := He.glo_ok X G (c.fact 9 (f := .glo "_law_alike") rfl)
  obtain ⟨fd_law_verse, F_law_verse⟩ := c.def_ 5 (d := d_law_verse) rfl
  have g_law_verse := He.glo_ok X G (c.fact 10 (f := .glo "_law_verse") rfl)
  obtain ⟨fd_law_wide, F_law_wide⟩ := c.def_ 6 (d := d_law_wide) rfl
  have g_law_wide := He.glo_ok X G (c.fact 11 (f := .glo "_law_wide") rfl)
  obtain ⟨fd_law_book, F_law_book⟩ := c.def_ 7 (d := d_law_book) rfl
  have g_law_book := He.glo_ok X G (c.fact 12 (f := .glo "_law_book") rfl)
  obtain ⟨fd_law_copy, F_law_copy⟩ := c.def_ 8 (d := d_law_copy) rfl
  have g_law_copy := He.glo_ok X G (c.fact 13 (f := .glo "_law_copy") rfl)
  obtain ⟨fd_is_syllable, F_is_syllable⟩ := c.def_ 9 (d := d_is_syllable) rfl
  have g_is_syllable := He.glo_ok X G (c.fact 14 (f := .glo "is_syllable") rfl)
  obtain ⟨fd_is_verse, F_is_verse⟩ := c.def_ 10 (d := d_is_verse) rfl
  have g_is_verse := He.glo_ok X G (c.fact 15 (f := .glo "is_verse") rfl)
  obtain ⟨fd_begins, F_begins⟩ := c.def_ 11 (d := d_begins) rfl
  have g_begins := He.glo_ok X G (c.fact 16 (f := .glo "begins") rfl)
  obtain ⟨fd_BadVerse___init__, F_BadVerse___init__⟩ := c.def_ 12 (d := d_BadVerse___init__) rfl
  obtain ⟨fd_Alike___init__, F_Alike___init__⟩ := c.def_ 13 (d := d_Alike___init__) rfl
  obtain ⟨fd_check_rows_x, F_check_rows_x⟩ := c.def_ 14 (d := d_check_rows_x) rfl
  have g_check_rows_x := He.glo_ok X G (c.fact 17 (f := .glo "check_rows") rfl)
  obtain ⟨fd_Book___init___x, F_Book___init___x⟩ := c.def_ 15 (d := d_Book___init___x) rfl
  obtain ⟨fd_law_is_line, F_law_is_line⟩ := c.def_ 16 (d := d_law_is_line) rfl
  have g_law_is_line := He.glo_ok X G (c.fact 18 (f := .glo "_law_is_line") rfl)
  obtain ⟨fd_law_book_bad, F_law_book_bad⟩ := c.def_ 17 (d := d_law_book_bad) rfl
  have g_law_book_bad := He.glo_ok X G (c.fact 19 (f := .glo "_law_book_bad") rfl)
  obtain ⟨fd_law_why_book, F_law_why_book⟩ := c.def_ 18 (d := d_law_why_book) rfl
  have g_law_why_book := He.glo_ok X G (c.fact 20 (f := .glo "_law_why_book") rfl)
  obtain ⟨fd_law_spoilt_book, F_law_spoilt_book⟩ := c.def_ 19 (d := d_law_spoilt_book) rfl
  have g_law_spoilt_book := He.glo_ok X G (c.fact 21 (f := .glo "_law_spoilt_book") rfl)
  obtain ⟨fd_law, F_law⟩ := c.def_ 20 (d := d_law) rfl
  have e := hfa.symm.trans (He.glo_ok X G (c.fact 22 (f := .glo "law") rfl))
  cases e
  have T : Txt K mg := ⟨He.free_ok X G (c.fact 26 (f := .free "all") rfl), He.free_ok X G (c.fact 27 (f := .free "bool") rfl), He.free_ok X G (c.fact 28 (f := .free "enumerate") rfl), He.free_ok X G (c.fact 29 (f := .free "int") rfl), He.free_ok X G (c.fact 30 (f := .free "isinstance") rfl), He.free_ok X G (c.fact 31 (f := .free "len") rfl), He.free_ok X G (c.fact 32 (f := .free "list") rfl), He.free_ok X G (c.fact 33 (f := .free "max") rfl), He.free_ok X G (c.fact 34 (f := .free "min") rfl), He.free_ok X G (c.fact 35 (f := .free "range") rfl), He.free_ok X G (c.fact 36 (f := .free "str") rfl), He.free_ok X G (c.fact 37 (f := .free "tuple") rfl), He.free_ok X G (c.fact 38 (f := .free "zip") rfl), He.int_ok X G (c.fact 39 (f := .int "MOST_LETTERS" 3) rfl), He.int_ok X G (c.fact 40 (f := .int "MOST_SYLLABLES" 8) rfl), He.int_ok X G (c.fact 41 (f := .int "MOST_VERSES" 40) rfl), He.cls_ok (c.fact 42 (f := .cls "Book") rfl), He.noat_ok (c.fact 43 (f := .noat "Book" "lines") rfl), (have z := He.exc_ok (c.fact 4 (f := .exc "BadBook") rfl); ⟨He.glo_ok X G (c.fact 1 (f := .glo "BadBook") rfl), z.1, z.2.1, z.2.2.1, z.2.2.2⟩), He.glo_ok X G (c.fact 23 (f := .glo "Alike") rfl), He.glo_ok X G (c.fact 1 (f := .glo "BadBook") rfl), He.glo_ok X G (c.fact 24 (f := .glo "BadVerse") rfl), He.glo_ok X G (c.fact 3 (f := .glo "SnatchError") rfl), (And.left (Bool.and_eq_true_iff.mp cx)), oexB_ok (And.left (Bool.and_eq_true_iff.mp (And.right (Bool.and_eq_true_iff.mp cx)))), oexB_ok (And.right (Bool.and_eq_true_iff.mp (And.right (Bool.and_eq_true_iff.mp cx))))⟩
  have b := FunD.bindsA (ps := ["_law_script"]) F_law fun _ _ _ _ _ _ us hl => match us, hl with | [_], _ => rfl
  refine ⟨fd_law, fun s v => b s [v] rfl, fun base _ _ => ?_⟩
  have D_law_numbers : DefAt P w K mg base "_law_numbers" 1 ["_law_script", "_law_many"] (spF (sp2 (aE K) (aE K) (aE K) f_law_numbers)) := defAt (x := "_law_numbers") (qual := "_law_numbers") (st := s_law_numbers) F_law_numbers g_law_numbers (ok_law_numbers F_law_numbers T ) fun _ _ _ _ _ _ us hl => match us, hl with | [_, _], _ => rfl
  have D_law_same : DefAt P w K mg base "_law_same" 9 ["_law_found", "_law_due"] (spF (S_same K 9)) := defAt (x := "_law_same") (qual := "_law_same") (st := s_law_same) F_law_same g_law_same (ok_law_same F_law_same T g_law_same 9) fun _ _ _ _ _ _ us hl => match us, hl with | [_, _], _ => rfl
  have D_law_sound : DefAt P w K mg base "_law_sound" 1 ["_law_number"] (spF (sp1 (aE K) (aE K) f_law_sound)) := defAt (x := "_law_sound") (qual := "_law_sound") (st := s_law_sound) F_law_sound g_law_sound (ok_law_sound F_law_sound T ) fun _ _ _ _ _ _ us hl => match us, hl with | [_], _ => rfl
  have D_law_pool : DefAt P w K mg base "_law_pool" 2 ["_law_d"] (spF (sp1 (aE K) (aE K) f_law_pool)) := defAt (x := "_law_pool") (qual := "_law_pool") (st := s_law_pool) F_law_pool g_law_pool (ok_law_pool F_law_pool T D_law_sound) fun _ _ _ _ _ _ us hl => match us, hl with | [_], _ => rfl
  have D_law_alike : DefAt P w K mg base "_law_alike" 1 ["_law_one", "_law_other"] (spF (sp2 (aE K) (aE K) (aE K) f_law_alike)) := defAt (x := "_law_alike") (qual := "_law_alike") (st := s_law_alike) F_law_alike g_law_alike (ok_law_alike F_law_alike T ) fun _ _ _ _ _ _ us hl => match us, hl with | [_, _], _ => rfl
  have D_law_verse : DefAt P w K mg base "_law_verse" 1 ["_law_verses", "_law_pool_here", "_law_d"] (spF (sp3 (aE K) (aE K) (aE K) (aE K) f_law_verse)) := defAt (x := "_law_verse") (qual := "_law_verse") (st := s_law_verse) F_law_verse g_law_verse (ok_law_verse F_law_verse T ) fun _ _ _ _ _ _ us hl => match us, hl with | [_, _, _], _ => rfl
  have D_law_wide : DefAt P w K mg base "_law_wide" 1 ["_law_d", "_law_size"] (spF (sp2 (aE K) (aE K) (aE K) f_law_wide)) := defAt (x := "_law_wide") (qual := "_law_wide") (st := s_law_wide) F_law_wide g_law_wide (ok_law_wide F_law_wide T ) fun _ _ _ _ _ _ us hl => match us, hl with | [_, _], _ => rfl
  have D_law_book : DefAt P w K mg base "_law_book" 3 ["_law_d", "_law_most"] (spF (sp2 (aE K) (aE K) (aE K) f_law_book)) := defAt (x := "_law_book") (qual := "_law_book") (st := s_law_book) F_law_book g_law_book (ok_law_book F_law_book T D_law_pool D_law_alike D_law_verse D_law_wide) fun _ _ _ _ _ _ us hl => match us, hl with | [_, _], _ => rfl
  have D_law_copy : DefAt P w K mg base "_law_copy" 1 ["_law_rows"] (spF (sp1 (aE K) (aE K) f_law_copy)) := defAt (x := "_law_copy") (qual := "_law_copy") (st := s_law_copy) F_law_copy g_law_copy (ok_law_copy F_law_copy T ) fun _ _ _ _ _ _ us hl => match us, hl with | [_], _ => rfl
  have D_is_syllable : DefAt P w K mg base "is_syllable" 1 ["text"] (spF (sp1 (aE K) (aE K) f_is_syllable)) := defAt (x := "is_syllable") (qual := "is_syllable") (st := s_is_syllable) F_is_syllable g_is_syllable (ok_is_syllable F_is_syllable T ) fun _ _ _ _ _ _ us hl => match us, hl with | [_], _ => rfl
  have D_is_verse : DefAt P w K mg base "is_verse" 2 ["syllables"] (spF (sp1 (aE K) (aE K) f_is_verse)) := defAt (x := "is_verse") (qual := "is_verse") (st := s_is_verse) F_is_verse g_is_verse (ok_is_verse F_is_verse T D_is_syllable) fun _ _ _ _ _ _ us hl => match us, hl with | [_], _ => rfl
  have D_begins : DefAt P w K mg base "begins" 1 ["one", "other"] (spF (sp2 (aE K) (aE K) (aE K) f_begins)) := defAt (x := "begins") (qual := "begins") (st := s_begins) F_begins g_begins (ok_begins F_begins T ) fun _ _ _ _ _ _ us hl => match us, hl with | [_, _], _ => rfl
  have D_BadVerse___init__ : XkAt P w K mg base "BadVerse" (He.ga K "BadVerse") 1 ["self", "row"] (spE1 (He.ga K "BadVerse") "row") := xkAt (x := "__init__") (qual := "BadVerse.__init__") (st := s_BadVerse___init__) F_BadVerse___init__ T.g_BadVerse T.x_BadVerse (ok_BadVerse___init__ F_BadVerse___init__ T ) fun _ _ _ _ _ _ us hl => match us, hl with | [_, _], _ => rfl
  have D_Alike___init__ : XkAt P w K mg base "Alike" (He.ga K "Alike") 1 ["self", "one", "other"] (spE2 (He.ga K "Alike") "one" "other") := xkAt (x := "__init__") (qual := "Alike.__init__") (st := s_Alike___init__) F_Alike___init__ T.g_Alike T.x_Alike (ok_Alike___init__ F_Alike___init__ T ) fun _ _ _ _ _ _ us hl => match us, hl with | [_, _, _], _ => rfl
  have D_check_rows_x : DefAtX P w K mg base "check_rows" 3 ["rows"] (spX (sx1 K (aE K) (aE K) f_check_rows_x)) := defAtX (x := "check_rows") (qual := "check_rows") (st := s_check_rows_x) F_check_rows_x g_check_rows_x (ok_check_rows_x F_check_rows_x T D_is_verse D_begins D_BadVerse___init__ D_Alike___init__) fun _ _ _ _ _ _ us hl => match us, hl with | [_], _ => rfl
  have D_Book___init___x : MkAtX P w K mg base "Book" (cBook K) 4 ["self", "verses"] (spIXR (six1 K (aE K) (oBook K) f_Book___init___x) (cBook K)) := mkAtX (x := "__init__") (qual := "Book.__init__") (st := s_Book___init___x) F_Book___init___x (He.mkr_ok (c.fact 44 (f := .mkr "Book") rfl)) (He.glo_ok X G (c.fact 25 (f := .glo "Book") rfl)) (ok_Book___init___x F_Book___init___x T D_check_rows_x) fun _ _ _ _ _ _ us hl => match us, hl with | [_, _], _ => rfl
  have D_law_is_line : DefAt P w K mg base "_law_is_line" 1 ["_law_line"] (spF (sp1 (aE K) (aE K) f_law_is_line)) := defAt (x := "_law_is_line") (qual := "_law_is_line") (st := s_law_is_line) F_law_is_line g_law_is_line (ok_law_is_line F_law_is_line T ) fun _ _ _ _ _ _ us hl => match us, hl with | [_], _ => rfl
  have D_law_book_bad : DefAt P w K mg base "_law_book_bad" 2 ["_law_verses"] (spF (sp1 (aE K) (aE K) f_law_book_bad)) := defAt (x := "_law_book_bad") (qual := "_law_book_bad") (st := s_law_book_bad) F_law_book_bad g_law_book_bad (ok_law_book_bad F_law_book_bad T D_law_alike D_law_is_line) fun _ _ _ _ _ _ us hl => match us, hl with | [_], _ => rfl
  have D_law_why_book : DefAt P w K mg base "_law_why_book" 6 ["_law_verses"] (spF (sp1 (aE K) (aE K) f_law_why_book)) := defAt (x := "_law_why_book") (qual := "_law_why_book") (st := s_law_why_book) F_law_why_book g_law_why_book (ok_law_why_book F_law_why_book T D_Book___init___x) fun _ _ _ _ _ _ us hl => match us, hl with | [_], _ => rfl
  have D_law_spoilt_book : DefAt P w K mg base "_law_spoilt_book" 1 ["_law_verses", "_law_d"] (spR (sp2 (aE K) (aE K) (aE K) f_law_spoilt_book)) := defAt (x := "_law_spoilt_book") (qual := "_law_spoilt_book") (st := s_law_spoilt_book) F_law_spoilt_book g_law_spoilt_book (ok_law_spoilt_book F_law_spoilt_book T ) fun _ _ _ _ _ _ us hl => match us, hl with | [_, _], _ => rfl
  exact ok_law F_law T D_law_numbers D_law_same D_law_book D_law_copy D_law_book_bad D_law_why_book D_law_spoilt_book law_true
end Kj
open PySem PySem.W PySem.Calls PyProof.Rows
theorem PySem.Challenge.cw_kimariji_k04_books_refused_holds : PySem.Challenge.rw_kimariji_k04_books_refused.Holds := by
  w_on; o_law
  refine HandSHeadRun.head_any (r := OpenLaw.row PySem.Challenge.rw_kimariji_k04_books_refused) (q := view (OpenLaw.row PySem.Challenge.rw_kimariji_k04_books_refused).prog [30]) (H := Kj.hk) (ob := Kj.ob) (M := 8000) (loose := ["SnatchError", "BadBook", "BadVerse", "Alike", "NoVerse", "Book", "check_rows", "is_verse", "is_syllable", "begins", "check_verse", "_law_numbers", "_law_same", "_law_sound", "_law_pool", "_law_alike", "_law_verse", "_law_wide", "_law_book", "_law_copy", "_law_is_line", "_law_book_bad", "_law_why_book", "_law_spoilt_book", "MOST_VERSES", "MOST_SYLLABLES", "MOST_LETTERS"]) (d := HandSHeadRun.topDef (OpenLaw.row PySem.Challenge.rw_kimariji_k04_books_refused).prog 30) (kwd := []) Kj.ob_eq
    (by kernel_rfl) (fun s => by kernel_rfl) Kj.run (by kernel_rfl) (by kernel_rfl) (by kernel_rfl) (by rfl) (by first | assumption | decide +kernel) (by decide +kernel) ⟨rfl, rfl, rfl, rfl, rfl, by decide +kernel⟩ ?hw ?hc
  case hw => w_witness2
  case hc =>
    refine L2.walk_ofE (l := PySem.Challenge.rw_kimariji_k04_books_refused) (n := 63) (k := 10) (x := "_law_script") (CX := L2.CX0) rfl (by decide) (by kernel_rfl) ⟨rfl, by decide, by decide⟩ ?F (fun _ _ _ _ z => z)
    intro w mg fa h Y G hmg0
    obtain ⟨K, KX, c, cx⟩ := Y
    have hmg : mg ("law" : PySem.Str) = some (.ref fa) := by
      have e : (HandSHeadRun.topDef (OpenLaw.row PySem.Challenge.rw_kimariji_k04_books_refused).prog 30).name = ("law" : PySem.Str) := by kernel_rfl
      rw [← e]
      exact hmg0
    obtain ⟨fd, hb, hF⟩ := Kj.facts (P := (PySem.Challenge.rw_kimariji_k04_books_refused).prog) (w := w) KX G hmg c cx
    exact ⟨K, fd, Kj.spL K, KX, hb, fun H a ns hl _ hS => ⟨a, ns, rfl, hS, hl, fun _ => rfl⟩, hF⟩
