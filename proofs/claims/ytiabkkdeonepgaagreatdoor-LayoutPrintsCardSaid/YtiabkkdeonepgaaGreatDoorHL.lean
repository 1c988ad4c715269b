import Derived.Test.YtiabkkdeonepgaaGreatDoorXI
import Derived.Test.YtiabkkdeonepgaaGreatDoorXH
namespace Go.Proofs.YtiabkkdeonepgaaGreatDoor
namespace Ps
open Pg
variable {l : List Tok}
def nodeOK (h : Hd) (a t : Nat) : Prop := if h.kind = 0 then h.fro = 0 ∧ h.til = 0 else a ≤ h.fro ∧ h.til ≤ t ∧ h.fro ≤ h.til ∧ (h.word.size ≠ 0 → h.fro ≤ h.at_ ∧ h.at_ < h.til)
def useOK (h : Hd) : Fo → Prop
  | .nil => True
  | .cons hk _ _ => hk.fro = h.fro + 1 ∧ hk.til = hk.fro + 1 ∧ hk.fro < h.at_
def Apt : Fo → Nat → Nat → Prop
  | .nil, _, _ => True
  | .cons h k r, a, t => nodeOK h a t ∧ (h.kind = 0 → k.len = 0) ∧ (h.kind = 2 → useOK h k) ∧ (h.kind ≠ 0 → h.kind ≠ 2 → Apt k h.fro h.til) ∧ Apt r (if h.kind = 0 then a else h.til) t
theorem nodeOK.mono {h : Hd} {a a' t t' : Nat} (hh : nodeOK h a t) (ha : a' ≤ a) (ht : t ≤ t') : nodeOK h a' t' := by
  unfold nodeOK at hh ⊢
  split at hh
  · rename_i h0; rw [if_pos h0]; exact hh
  · rename_i h0; rw [if_neg h0]; exact ⟨by omega, by omega, hh.2.2.1, hh.2.2.2⟩
theorem Apt.mono : ∀ {k : Fo} {a a' t t' : Nat}, Apt k a t → a' ≤ a → t ≤ t' → Apt k a' t'
  | .nil, _, _, _, _, _, _, _ => trivial
  | .cons h k r, a, a', t, t', ⟨h1, h2, h3, h4, h5⟩, ha, ht => ⟨h1.mono ha ht, h2, h3, h4, Apt.mono h5 (by split <;> omega) ht⟩
theorem Apt.app : ∀ {k m : Fo} {a y t : Nat}, Apt k a y → Apt m y t → a ≤ y → y ≤ t → Apt (k.app m) a t
  | .nil, m, a, y, t, _, hm, ha, _ => hm.mono ha (Nat.le_refl _)
  | .cons h k r, m, a, y, t, ⟨h1, h2, h3, h4, h5⟩, hm, ha, ht => ⟨h1.mono (Nat.le_refl _) ht, h2, h3, h4, Apt.app h5 hm (by
      unfold nodeOK at h1
      split
      · exact ha
      · rename_i h0; rw [if_neg h0] at h1; exact h1.2.1) ht⟩
theorem Apt.zero (a t : Nat) : Apt .zero a t := ⟨by unfold nodeOK; rw [if_pos rfl]; exact ⟨rfl, rfl⟩, fun _ => rfl, fun h => (by cases h), fun h => absurd rfl h, trivial⟩
theorem Apt.one {h : Hd} {k : Fo} {a t x y : Nat} (h0 : h.kind ≠ 0) (h2 : h.kind ≠ 2) (hk : Apt k x y) (hx : h.fro ≤ x) (hy : y ≤ h.til) (ha : a ≤ h.fro) (ht : h.til ≤ t) (hft : h.fro ≤ h.til) (hw : h.word.size ≠ 0 → h.fro ≤ h.at_ ∧ h.at_ < h.til) : Apt (.one h k) a t :=
  ⟨by unfold nodeOK; rw [if_neg h0]; exact ⟨ha, ht, hft, hw⟩, fun e => absurd e h0, fun e => absurd e h2, fun _ _ => hk.mono hx hy, trivial⟩
theorem ty_was {f : Nat} {t : TT} {b : Int} {i : Nat} {r : Fo × Nat × Int} (h : tyM l f t b i = some r) (hr : r.2.2 < 0) : b < 0 := by
  by_cases hb : 0 ≤ b
  · have := tyM_bad hb h; omega
  · omega
theorem typed_was {f : Nat} {b : Int} {i : Nat} {r : Fo × Nat × Int} (h : typedM l f b i = some r) (hr : r.2.2 < 0) : b < 0 := by
  by_cases hb : 0 ≤ b
  · have := typedM_bad hb h; omega
  · omega
theorem parL_was {f : Nat} {first : Bool} {b : Int} {i : Nat} {r : Fo × Nat × Int} (h : parL l f first b i = some r) (hr : r.2.2 < 0) : b < 0 := by
  by_cases hb : 0 ≤ b
  · have := parL_bad hb h; omega
  · omega
end Ps
end Go.Proofs.YtiabkkdeonepgaaGreatDoor
