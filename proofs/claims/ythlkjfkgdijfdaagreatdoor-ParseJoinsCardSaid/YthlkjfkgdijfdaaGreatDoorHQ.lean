/- Mathematics: a file behind another one: its items are those of both. -/
import Derived.Test.YthlkjfkgdijfdaaGreatDoorHPB
namespace Go.Proofs.YthlkjfkgdijfdaaGreatDoor
namespace Ps
open Pg
variable {l : List Tok}
theorem items_was {g : Nat} {c : Int} {j : Nat} {y : Fo × Nat × Int} (hy : itemsM l g c j = some y) (hg : y.2.2 < 0) : c < 0 := by
  by_cases hh : 0 ≤ c
  · have := items_bad hh hy; omega
  · omega
variable {l' : List Tok} {d N : Nat}
theorem items_s (S : Sim l l' d N) : ∀ (f : Nat) (b : Int) (i : Nat) (r : Fo × Nat × Int), itemsM l f b i = some r → r.2.2 < 0 → r.2.1 + 1 ≤ N → Alike d r (itemsM l' f b (i + d)) := by
  intro f
  induction f with
  | zero => intro b i r h; rw [itemsM] at h; cases h
  | succ f ih =>
    intro b i r h hr hN
    have hb := items_was h hr
    obtain ⟨_, hi, _⟩ := items_apt _ _ _ _ h hr
    rw [itemsM] at h ⊢
    rw [S.k i (by omega), S.m i (by omega)]
    split at h
    · rename_i c
      rw [if_pos c]
      split at h
      · rename_i c1
        rw [if_pos c1]
        obtain ⟨x, h1, h⟩ := Option.map_eq_some_iff.1 h
        subst h
        dsimp only at hr hN
        have hu := items_was h1 hr
        obtain ⟨_, q2, _⟩ := items_apt _ _ _ _ h1 hr
        obtain ⟨k1, e1, z1⟩ := use_s S hu (by omega)
        have e1 := Option.some.inj e1
        obtain ⟨k2, e2, z2⟩ := ih _ _ _ h1 hr hN
        rw [e1]
        dsimp only
        rw [e2]
        exact ⟨_, rfl, Eqv.app z1 z2⟩
      · rename_i c1
        rw [if_neg c1]
        obtain ⟨t, h0, h⟩ := Option.bind_eq_some_iff.1 h
        obtain ⟨x, h1, h⟩ := Option.map_eq_some_iff.1 h
        subst h
        dsimp only at hr hN
        have hu := items_was h1 hr
        obtain ⟨_, q2, _⟩ := items_apt _ _ _ _ h1 hr
        obtain ⟨k1, e1, z1⟩ := def_s S h0 hu (by omega)
        obtain ⟨k2, e2, z2⟩ := ih _ _ _ h1 hr hN
        rw [e1, Option.bind_some]
        dsimp only
        rw [e2]
        exact ⟨_, rfl, Eqv.app z1 z2⟩
    · rename_i c
      rw [if_neg c]
      injection h with h; subst h
      exact ⟨_, rfl, Eqv.refl _ _⟩
theorem items_cat {g : Nat} {y : Fo × Nat × Int} (S : Sim l l' 0 d) (hy : itemsM l' g (-1) d = some y) : ∀ (f : Nat) (b : Int) (i : Nat) (r : Fo × Nat × Int), itemsM l f b i = some r → b = -1 → r.2.2 < 0 → r.2.1 = d →
    ∃ k', itemsM l' (g + f) b i = some (k', y.2) ∧ Eqv false (r.1.app y.1) k' := by
  intro f
  induction f with
  | zero => intro b i r h; rw [itemsM] at h; cases h
  | succ f ih =>
    intro b i r h hb1 hr hd
    have hb := items_was h hr
    obtain ⟨_, hi, _⟩ := items_apt _ _ _ _ h hr
    rw [itemsM] at h
    split at h
    · rename_i c
      have hid : i < d := by
        by_cases hid : i < d
        · exact hid
        · exfalso
          split at h
          · obtain ⟨x, h1, h⟩ := Option.map_eq_some_iff.1 h
            subst h
            dsimp only at hr hd hi
            obtain ⟨_, q2, _⟩ := items_apt _ _ _ _ h1 hr
            obtain ⟨_, q1⟩ := use_apt (items_was h1 hr)
            obtain ⟨hb', k1, m2, k3, m4⟩ := use_good (items_was h1 hr)
            rw [use_of hb' k1 m2 k3 m4] at q2
            dsimp only at q2
            omega
          · obtain ⟨t, h0, h⟩ := Option.bind_eq_some_iff.1 h
            obtain ⟨x, h1, h⟩ := Option.map_eq_some_iff.1 h
            subst h
            dsimp only at hr hd hi
            obtain ⟨_, q2, _⟩ := items_apt _ _ _ _ h1 hr
            have hu := items_was h1 hr
            unfold defM at h0
            obtain ⟨k, h3, h0⟩ := Option.bind_eq_some_iff.1 h0
            injection h0 with h0; subst h0
            dsimp only at hu q2
            have p1 := ex_go _ _ _ _ _ h3 hu
            have g1 := exM_was h3 hu
            obtain ⟨g2, w2, e2⟩ := wordM_good g1
            obtain ⟨_, w3, e3⟩ := wantM_good g2
            rw [e2, e3] at p1
            dsimp only at p1
            omega
      have ek := S.k i hid
      have em := S.m i hid kUse
      rw [Nat.add_zero] at ek em
      rw [show g + (f + 1) = g + f + 1 by omega, itemsM, ek, em, if_pos c]
      split at h
      · rename_i c1
        rw [if_pos c1]
        obtain ⟨x, h1, h⟩ := Option.map_eq_some_iff.1 h
        subst h
        dsimp only at hr hd
        have hu := items_was h1 hr
        obtain ⟨_, q2, _⟩ := items_apt _ _ _ _ h1 hr
        obtain ⟨k1, e1, z1⟩ := use_s S hu (by omega)
        have e1 := Option.some.inj e1
        have hub : (useM l b i).2.2 = b := by
          obtain ⟨hb', k1, m2, k3, m4⟩ := use_good hu
          rw [use_of hb' k1 m2 k3 m4]
        obtain ⟨k2, e2, z2⟩ := ih _ _ _ h1 (hub.trans hb1) hr hd
        rw [Nat.add_zero, Nat.add_zero] at e1
        rw [e1]
        dsimp only
        rw [e2]
        refine ⟨_, rfl, ?_⟩
        rw [Fo.app_assoc]
        exact Eqv.app z1 z2
      · rename_i c1
        rw [if_neg c1]
        obtain ⟨t, h0, h⟩ := Option.bind_eq_some_iff.1 h
        obtain ⟨x, h1, h⟩ := Option.map_eq_some_iff.1 h
        subst h
        dsimp only at hr hd
        have hu := items_was h1 hr
        obtain ⟨_, q2, _⟩ := items_apt _ _ _ _ h1 hr
        obtain ⟨k1, e1, z1⟩ := def_s S h0 hu (by omega)
        have hub : t.2.2 = b := def_b h0 hu
        obtain ⟨k2, e2, z2⟩ := ih _ _ _ h1 (hub.trans hb1) hr hd
        rw [Nat.add_zero, Nat.add_zero] at e1
        have e1' : defM l' (g + f) b i = some (k1, t.2.1, t.2.2) := def_mores e1 g
        rw [e1', Option.bind_some]
        dsimp only
        rw [e2]
        refine ⟨_, rfl, ?_⟩
        rw [Fo.app_assoc]
        exact Eqv.app z1 z2
    · injection h with h; subst h
      dsimp only at hd
      subst hd
      rw [hb1]
      exact ⟨_, items_more hy (f + 1), Eqv.refl _ _⟩
end Ps
end Go.Proofs.YthlkjfkgdijfdaaGreatDoor
