/- The law EditDoes returns true, whatever it is given. -/
import Derived.Test.YtendbkbjmibchaaRB
import Derived.Test.YtendbkbjmibchaaLight
namespace Go.Proofs.Ytendbkbjmibchaa
open Go.RowKit

theorem lv_len (s : ByteArray) (a m : Int) (h0 : 0 ≤ a) (h1 : a ≤ m) (h2 : m ≤ s.size) : (pbs s (lv a m)).length ≤ m.toNat - a.toNat := by
  rw [lvb s a m h0 h1, List.length_take]
  exact Nat.min_le_left _ _
theorem pcs_len (s : ByteArray) : ∀ (es : List Ed) (p : Option Int) (a : Int), 0 ≤ a → a ≤ s.size → ((p = none ∧ a = 0) ∨ p = some a) → sndGo s.size p es = 0 → (pbs s (pcs s.size a es)).length ≤ s.size - a.toNat + tot es
  | [], p, a, h0, h1, _, _ => by
    have := lv_len s a s.size h0 h1 (Int.le_refl _)
    rw [pcs]
    unfold tot
    omega
  | e :: r, p, a, h0, h1, hp, hs => by
    obtain ⟨g0, g1, g2, g3, g4, g5⟩ := sndGo_cons hs
    have hae : a ≤ e.f := near_pos (hp.imp (fun h => ⟨h.1, h.2, g0⟩) id) g4
    have k1 := lv_len s a e.f h0 hae (by omega)
    have k2 := pcs_len s r (some e.t) e.t (by omega) g2 (.inr rfl) g5
    have k3 : (pbs s (tx_ e.x)).length = e.x.size := by rw [tx_bytes, Array.length_toList]; rfl
    rw [pcs, pbs_append, pbs_append, List.length_append, List.length_append, k3]
    unfold tot
    omega
theorem apd_len (s : ByteArray) (es : List Ed) (hs : snd es s.size = 0) : (apd s es).length ≤ s.size + tot es := by
  have hs' : sndGo s.size none es = 0 := by
    unfold snd at hs
    split at hs
    · omega
    · exact hs
  have := pcs_len s es none 0 (by omega) (by omega) (.inl ⟨rfl, rfl⟩) hs'
  unfold apd
  simpa using this
theorem light_len {n : Nat} {es : List Ed} (h : lightB n es = true) : es.length ≤ 600 ∧ (es = [] ∨ n + tot es ≤ 3000) := by
  unfold lightB at h
  rw [Bool.and_eq_true, Bool.or_eq_true, decide_eq_true_iff, decide_eq_true_iff, List.isEmpty_iff] at h
  exact ⟨h.2, h.1⟩
theorem light_apd {s : ByteArray} {es : List Ed} (h : lightB s.size es = true) (hm : s.size ≤ 140737488351232) (hs : snd es s.size = 0) : (apd s es).length ≤ 140737488355328 := by
  have := apd_len s es hs
  rcases (light_len h).2 with rfl | h2
  · unfold tot at this; omega
  · omega

set_option maxHeartbeats 2000000 in
theorem editDoes_walk (s : ByteArray) (A : Option Addr) (cap : Nat) (es : List Ed) (w : World) (hes : Eds w w.heap.size A es) (hlm : es.length ≤ maxLen) (hm : s.size ≤ 140737488351232) (hx : ∀ e ∈ es, e.x.size ≤ 140737488351232) :
    Calls Try.prog 8 #[.string s, .slice A es.length cap] w fun e w' => e = .returned (.bool true) ∧ Below w.heap.size w w' := by
  unfold maxLen at hlm
  have HES := Lib.hid hes
  have HX := Lib.hid hx
  clear hes hx
  cases hL : lightB s.size es
  · have HL := Lib.hid hL
    clear hL
    go_enter Try.func8, Try.ntmps8
    go_wp2_with fail
    refine (light_any s A cap es _ HES.out hlm (by omega) (fun e he => by have := HX.out e he; omega)).mono ?_
    rintro e w1 ⟨rfl, hb⟩
    rw [HL.out]
    have HB := Lib.hid hb
    clear hb
    go_wp2_with fail
    refine (awake_edit _).mono ?_
    rintro e w2 ⟨rfl, hb⟩
    have HB2 := Lib.hid (HB.out.trans (hb.mono HB.out.size))
    clear hb
    go_wp2
    go_ret
    exact ⟨rfl, HB2.out⟩
  · have HL := Lib.hid hL
    have hl6 := (light_len hL).1
    clear hL
    obtain ⟨t, c, HA, HR⟩ : ∃ (t : ByteArray) (c : Int), (∀ w, Eds w w.heap.size A es → Calls Try.prog 33 #[.string s, .slice A es.length cap] w fun e w' => e = .returned (.tuple #[.string t, .int .i64 c]) ∧ Below w.heap.size w w') ∧
        (∀ w, Eds w w.heap.size A es → Calls Try.prog 34 #[.string s, .slice A es.length cap] w fun e w' => e = .returned (.tuple #[.string t, .int .i64 c]) ∧ Below w.heap.size w w') := by
      by_cases hs : snd es s.size = 0
      · exact ⟨_, _, fun w h => apply_ok s A cap es w h (by omega) hs (light_apd HL.out hm hs), fun w h => rapply_ok s A cap es w h (by omega) hs (light_apd HL.out hm hs) (by omega)⟩
      · exact ⟨_, _, fun w h => apply_no s A cap es w h (by omega) hs, fun w h => rapply_no s A cap es w h (by omega) hs⟩
    have HA' := Lib.hid HA
    have HR' := Lib.hid HR
    clear HA HR
    go_enter Try.func8, Try.ntmps8
    go_wp2_with fail
    refine (light_any s A cap es _ HES.out (by omega) (by omega) (fun e he => by have := HX.out e he; omega)).mono ?_
    rintro e w1 ⟨rfl, hb⟩
    rw [HL.out]
    have HB := Lib.hid hb
    have HE1 := Lib.hid ((HES.out.below hb).more hb.size)
    clear hb
    go_wp2_with fail
    refine (HA'.out _ HE1.out).mono ?_
    rintro e w2 ⟨rfl, hb⟩
    have HB2 := Lib.hid (HB.out.trans (hb.mono HB.out.size))
    have HE2 := Lib.hid ((HE1.out.below hb).more hb.size)
    clear hb
    go_wp2_with fail
    refine (HR'.out _ HE2.out).mono ?_
    rintro e w3 ⟨rfl, hb⟩
    have HB3 := Lib.hid (HB2.out.trans (hb.mono HB2.out.size))
    have HE3 := Lib.hid ((HE2.out.below hb).more hb.size)
    clear hb
    go_wp2_with fail
    refine (awake_edit _).mono ?_
    rintro e w4 ⟨rfl, hb⟩
    have HB4 := Lib.hid (HB3.out.trans (hb.mono HB3.out.size))
    have HE4 := Lib.hid ((HE3.out.below hb).more hb.size)
    clear hb
    go_wp2_with fail
    refine (sound_edits A cap es s.size _ HE4.out (by omega)).mono ?_
    rintro e w5 ⟨rfl, hb⟩
    have HB5 := Lib.hid (HB4.out.trans (hb.mono HB4.out.size))
    have HE5 := Lib.hid ((HE4.out.below hb).more hb.size)
    clear hb
    go_wp2_with fail
    refine (rsound_edits A cap es s.size _ HE5.out (by omega)).mono ?_
    rintro e w6 ⟨rfl, hb⟩
    have HB6 := Lib.hid (HB5.out.trans (hb.mono HB5.out.size))
    clear hb
    go_wp2
    go_ret
    exact ⟨rfl, HB6.out⟩
end Go.Proofs.Ytendbkbjmibchaa
