/- Contracts: edit.Compose. -/
import Derived.Test.YtendbkbjmibchaaCS
namespace Go.Proofs.Ytendbkbjmibchaa
open Go.RowKit

theorem compose_neg (A1 A2 : Option Addr) (c1 c2 : Nat) (a b : List Ed) (n : Int) (w : World) (hn : n < 0) :
    Calls Try.prog 39 #[.slice A1 a.length c1, .slice A2 b.length c2, .int .i64 n] w fun e w' => e = .returned (.tuple #[.slice none 0 0, .int .i64 1]) ∧ Below w.heap.size w w' := by
  go_enter Try.func39, Try.ntmps39
  go_wp2
  go_ret2
  exact ⟨rfl, Below.refl _ _⟩

theorem compose_no1 (A1 A2 : Option Addr) (c1 c2 : Nat) (a b : List Ed) (n : Int) (w : World) (h0 : 0 ≤ n) (ha : Eds w w.heap.size A1 a) (hla : a.length ≤ 100000) (hs : snd a n ≠ 0) :
    Calls Try.prog 39 #[.slice A1 a.length c1, .slice A2 b.length c2, .int .i64 n] w fun e w' => e = .returned (.tuple #[.slice none 0 0, .int .i64 (snd a n)]) ∧ Below w.heap.size w w' := by
  have HA := Lib.hid ha
  clear ha
  have hd : decide (n < 0) = false := by simp; omega
  have g : (snd a n == 0) = false := by simpa using hs
  go_enter Try.func39, Try.ntmps39
  go_wp2_with fail
  refine (sound_edits A1 c1 a n _ HA.out hla).mono ?_
  rintro e w1 ⟨rfl, hb⟩
  have HB := Lib.hid hb
  clear hb
  go_wp2_with fail
  go_ret2
  exact ⟨rfl, HB.out⟩

set_option maxHeartbeats 2000000 in
theorem compose_no2 (A1 A2 : Option Addr) (c1 c2 : Nat) (a b : List Ed) (n : Int) (w : World) (h0 : 0 ≤ n) (hn : n ≤ 140737488355328) (ha : Eds w w.heap.size A1 a) (hb : Eds w w.heap.size A2 b) (hlb : b.length ≤ 100000) (hs : snd a n = 0) (ht : tot a ≤ 140737488355328) (hx : ∀ e ∈ a, e.x.size ≤ 1000000000000000) (hs2 : snd b (n + grows a) ≠ 0) :
    Calls Try.prog 39 #[.slice A1 a.length c1, .slice A2 b.length c2, .int .i64 n] w fun e w' => e = .returned (.tuple #[.slice none 0 0, .int .i64 (snd b (n + grows a))]) ∧ Below w.heap.size w w' := by
  have HA := Lib.hid ha
  have HBE := Lib.hid hb
  have HX := Lib.hid hx
  have HIN := Lib.hid (snd_all _ a _ (snd_go hs).2)
  have hla := (snd_go hs).1
  have hg1 := grows_le n a HIN.out
  have hg2 := grows_ge n a HIN.out
  have hg3 : (a.length : Int) * n ≤ 512 * 140737488355328 := Int.mul_le_mul (by omega) (by omega) h0 (by omega)
  clear ha hb hx
  have hd : decide (n < 0) = false := by simp; omega
  have g : (snd b (n + grows a) == 0) = false := by simpa using hs2
  have HS := Lib.hid hs
  clear hs hs2
  go_enter Try.func39, Try.ntmps39
  go_wp2_with fail
  refine (sound_edits A1 c1 a n _ HA.out (by omega)).mono ?_
  rintro e w1 ⟨rfl, hb⟩
  have HB := Lib.hid hb
  have HA1 := Lib.hid ((HA.out.below hb).more hb.size)
  rw [HS.out]
  clear hb
  go_wp2_with fail
  refine (grows_any A1 c1 a n _ HA1.out (by omega) HIN.out (by omega) HX.out).mono ?_
  rintro e w2 ⟨rfl, hb⟩
  have HB2 := Lib.hid (HB.out.trans (hb.mono HB.out.size))
  clear hb
  go_wp2_with fail
  refine (add_any n (grows a) _ h0 (by omega) (by omega) (by omega)).mono ?_
  rintro e w3 ⟨rfl, hb⟩
  have HB3 := Lib.hid (HB2.out.trans (hb.mono HB2.out.size))
  clear hb
  go_wp2_with fail
  refine (sound_edits A2 c2 b _ _ ((HBE.out.below HB3.out).more HB3.out.size) hlb).mono ?_
  rintro e w4 ⟨rfl, hb⟩
  have HB4 := Lib.hid (HB3.out.trans (hb.mono HB3.out.size))
  clear hb
  go_wp2_with fail
  go_ret2
  exact ⟨rfl, HB4.out⟩

set_option maxHeartbeats 4000000 in
set_option maxRecDepth 100000 in
theorem compose_ok (A1 A2 : Option Addr) (c1 c2 : Nat) (a b : List Ed) (n : Int) (w : World) (h0 : 0 ≤ n) (hn : n ≤ 140737488355328) (ha : Eds w w.heap.size A1 a) (hb : Eds w w.heap.size A2 b) (hs : snd a n = 0) (ht : tot a + tot b ≤ 140737488355328) (hs2 : snd b (n + grows a) = 0) :
    Calls Try.prog 39 #[.slice A1 a.length c1, .slice A2 b.length c2, .int .i64 n] w fun e w' => ∃ A' c', e = .returned (.tuple #[.slice A' (cmpd a b n).length c', .int .i64 0]) ∧ Eds w' w'.heap.size A' (cmpd a b n) ∧ Below w.heap.size w w' := by
  have hmf : ∀ (fn : Fn) (first cap : Array Value) (w : World), (Instr.makeFunc fn first cap).run Try.prog w = .ok (.func fn first cap) w := fun _ _ _ _ => rfl
  have HA := Lib.hid ha
  have HBE := Lib.hid hb
  have HX : Hid (∀ e ∈ a, e.x.size ≤ 1000000000000000) := fun e he => by have := tot_mem a e he; omega
  have HIN := Lib.hid (snd_all _ a _ (snd_go hs).2)
  have hla := (snd_go hs).1
  have hlb := (snd_go hs2).1
  have hg1 := grows_le n a HIN.out
  have hg2 := grows_ge n a HIN.out
  have hg3 : (a.length : Int) * n ≤ 512 * 140737488355328 := Int.mul_le_mul (by omega) (by omega) h0 (by omega)
  have HIB : Hid (∀ e ∈ b, 0 ≤ e.f ∧ e.f ≤ e.t ∧ e.t ≤ 1000000000000000 ∧ e.x.size ≤ 1000000000000000) := fun e he => by
    have h1 := snd_all _ b _ (snd_go hs2).2 e he
    have h2 := tot_mem b e he
    exact ⟨h1.1, h1.2.1, by omega, by omega⟩
  have HGD := Lib.hid (pcs_good n a h0 (by omega) hs (by omega))
  have HCG := Lib.hid (cg_all a b n hla hlb ht)
  have hlp : (pcs n 0 a).length ≤ 1000000 := by have := len_pcs n a 0; omega
  have hlo : (cst (both (pcs n 0 a) 0 b)).o.length ≤ 1000000 := by
    have h1 := (cst_small (both (pcs n 0 a) 0 b) ⟨[], 0, ⟨#[]⟩⟩).2
    have h2 := len_both b (pcs n 0 a) 0
    have h3 := len_pcs n a 0
    unfold cst
    simp only [List.length_nil] at h1
    omega
  have HCC := Lib.hid (cst_cmpd a b n)
  clear ha hb
  have hd : decide (n < 0) = false := by simp; omega
  have HS := Lib.hid hs
  have HS2 := Lib.hid hs2
  clear hs hs2
  go_enter Try.func39, Try.ntmps39
  go_wp2_with fail
  refine (sound_edits A1 c1 a n _ HA.out (by omega)).mono ?_
  rintro e w1 ⟨rfl, hb⟩
  have HB := Lib.hid hb
  have HA1 := Lib.hid ((HA.out.below hb).more hb.size)
  rw [HS.out]
  clear hb
  go_wp2_with fail
  refine (grows_any A1 c1 a n _ HA1.out (by omega) HIN.out (by omega) HX.out).mono ?_
  rintro e w2 ⟨rfl, hb⟩
  have HB2 := Lib.hid (HB.out.trans (hb.mono HB.out.size))
  clear hb
  go_wp2_with fail
  refine (add_any n (grows a) _ h0 (by omega) (by omega) (by omega)).mono ?_
  rintro e w3 ⟨rfl, hb⟩
  have HB3 := Lib.hid (HB2.out.trans (hb.mono HB2.out.size))
  clear hb
  go_wp2_with fail
  refine (sound_edits A2 c2 b _ _ ((HBE.out.below HB3.out).more HB3.out.size) (by omega)).mono ?_
  rintro e w4 ⟨rfl, hb⟩
  have HB4 := Lib.hid (HB3.out.trans (hb.mono HB3.out.size))
  rw [HS2.out]
  clear hb
  have hst : (store ⟨w4.heap.size + 1 + 1 + 1, 0, none⟩ (.func (.func 52) #[] #[.pointer (some ⟨w4.heap.size + 1 + 1, 0, none⟩), .pointer (some ⟨w4.heap.size + 1, 0, none⟩), .pointer (some ⟨w4.heap.size, 0, none⟩)])).run Try.prog ((((w4.alloc (.cells #[.slice none 0 0] 53)).alloc (.cells #[.slice none 0 0] 74)).alloc (.cells #[.int .i64 0] 3)).alloc (.cells #[.nilFunc] 88)) =
      .ok () ((((w4.alloc (.cells #[.slice none 0 0] 53)).alloc (.cells #[.slice none 0 0] 74)).alloc (.cells #[.int .i64 0] 3)).alloc (.cells #[.func (.func 52) #[] #[.pointer (some ⟨w4.heap.size + 1 + 1, 0, none⟩), .pointer (some ⟨w4.heap.size + 1, 0, none⟩), .pointer (some ⟨w4.heap.size, 0, none⟩)]] 88)) := by
    rw [run_store Try.prog _ _ _ _ rfl]
    simp [go_sem, stored]
  go_wp2_with fail
  obtain ⟨w5, hw5⟩ : ∃ w5, w5 = ((((w4.alloc (.cells #[.slice none 0 0] 53)).alloc (.cells #[.slice none 0 0] 74)).alloc (.cells #[.int .i64 0] 3)).alloc (.cells #[.func (.func 52) #[] #[.pointer (some ⟨w4.heap.size + 1 + 1, 0, none⟩), .pointer (some ⟨w4.heap.size + 1, 0, none⟩), .pointer (some ⟨w4.heap.size, 0, none⟩)]] 88)) := ⟨_, rfl⟩
  rw [← hw5]
  have hbel : Below w4.heap.size w4 w5 := by
    rw [hw5]
    exact ((((Below.refl _ w4).alloc (Nat.le_refl _) _).alloc (by simp) _).alloc (by simp; omega) _).alloc (by simp; omega) _
  have hs5 : w5.heap.size = w4.heap.size + 4 := by rw [hw5]; simp
  have hcv : CV w4.heap.size (cst []) (.slice none 0 0) (.slice none 0 0) w5 := by
    rw [hw5]
    exact ⟨(((RowB.new _ _ _).alloc _).alloc _).alloc _, ⟨rfl, .inl ⟨rfl, rfl⟩⟩, (((row_new (w4.alloc (.cells #[.slice none 0 0] 53)) 74 #[.slice none 0 0] (by simp)).alloc _).alloc _), ⟨rfl, .inl ⟨rfl, rfl⟩⟩,
      ((row_new ((w4.alloc (.cells #[.slice none 0 0] 53)).alloc (.cells #[.slice none 0 0] 74)) 3 #[.int .i64 0] (by simp)).alloc _), row_new _ _ _ (by simp)⟩
  have HA5 := Lib.hid ((HA.out.below (HB4.out.trans (hbel.mono HB4.out.size))).more (B' := w4.heap.size) HB4.out.size)
  have HB5 := Lib.hid ((HBE.out.below (HB4.out.trans (hbel.mono HB4.out.size))).more (B' := w4.heap.size) HB4.out.size)
  have HBL := Lib.hid hbel
  have HCV := Lib.hid hcv
  clear hcv hbel hst hw5
  refine (walkBoth_any 54 _ w4.heap.size (CI w4.heap.size) CG (lays54 w4.heap.size) A1 A2 c1 c2 a b n [] (CD w4.heap.size (.slice none 0 0) (.slice none 0 0)) w5 (HA5.out.more (by omega)) (HB5.out.more (by omega)) ⟨_, _, HCV.out, rfl⟩ (by omega) hla hlb
    (fun k _ hk => by
      rcases hk with h | h | h | h | h | h
      · omega
      · omega
      · omega
      · omega
      · simp [Value.ownBlock] at h
      · simp [Value.ownBlock] at h) HA5.out HB5.out HGD.out hlp HIB.out HCG.out).mono ?_
  rintro e w6 ⟨rfl, D', ⟨vo, vp, hcv, rfl⟩, hb, hk⟩
  rw [List.nil_append] at hcv
  have u0 : w6.cell? ⟨w4.heap.size + 3, 0, none⟩ = some (.func (.func 52) #[] #[.pointer (some ⟨w4.heap.size + 2, 0, none⟩), .pointer (some ⟨w4.heap.size + 1, 0, none⟩), .pointer (some ⟨w4.heap.size, 0, none⟩)]) := hcv.bu.cell 0
  have HC6 := Lib.hid hcv
  have HB6 := Lib.hid ((HB4.out.trans (HBL.out.mono HB4.out.size)).trans (hb.mono HB4.out.size))
  clear hb hk hcv
  go_wp2_with fail
  refine (upTo_any w4.heap.size (cst (both (pcs n 0 a) 0 b)) n vo vp w6 HC6.out hlo).mono ?_
  rintro e w7 ⟨rfl, vo', vp', hcv, hb, hk⟩
  obtain ⟨Ao, co, rfl⟩ := own_form3 hcv.oo
  have v0 : w7.cell? ⟨w4.heap.size, 0, none⟩ = some _ := hcv.bo.cell 0
  have HE := Lib.hid (eds_own hcv.oo rfl)
  have HB7 := Lib.hid (HB6.out.trans (hb.mono HB4.out.size))
  clear hcv hb hk u0
  go_wp2_with fail
  go_ret2
  rw [HCC.out] at HE
  exact ⟨Ao, co, by rw [HCC.out]; rfl, HE.out, HB7.out⟩
end Go.Proofs.Ytendbkbjmibchaa
