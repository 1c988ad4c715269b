/- Contracts: whether a type isn't too great. -/
import Derived.Test.YtbjlhdjcdinmhaaDoorTA
import Derived.Lib.QuietBelow
namespace Go.Proofs.YtbjlhdjcdinmhaaDoor
open Go.RowKit Go.Op
namespace Tm
open Vm
/-- How many parts have been counted, c so far. -/
def sumL (f : Int → Ty → Int) (most : Int) : Int → List Ty → Int
  | c, [] => c
  | c, p :: ps => if c ≤ most then sumL f most (c + f (most - c) p) ps else c
def sizeF : Nat → Int → Ty → Int
  | 0, most, _ => most + 1
  | d + 1, most, t => if (t.names.length : Int) > most then most + 1 else sumL (sizeF d) most 1 t.parts
theorem sumL_take {f : Int → Ty → Int} {most : Int} : ∀ {l : List Ty} {c : Int} {i : Nat} {t : Ty}, l[i]? = some t → sumL f most c (l.take i) ≤ most → sumL f most c (l.take (i + 1)) = sumL f most c (l.take i) + f (most - sumL f most c (l.take i)) t
  | [], c, i, t, h, _ => by simp at h
  | a :: l, c, 0, t, h, hc => by
    obtain rfl : a = t := by simpa using h
    simp only [List.take_zero, sumL] at hc
    simp [sumL, hc]
  | a :: l, c, i + 1, t, h, hc => by
    rw [List.take_succ_cons] at hc
    rw [List.take_succ_cons, List.take_succ_cons]
    by_cases hm : c ≤ most
    · rw [sumL, if_pos hm] at hc
      rw [sumL, if_pos hm, sumL, if_pos hm]
      exact sumL_take (by simpa using h) hc
    · rw [sumL, if_neg hm] at hc
      exact absurd hc hm
theorem sumL_stop {f : Int → Ty → Int} {most : Int} : ∀ {l : List Ty} {c : Int} {i : Nat}, ¬ sumL f most c (l.take i) ≤ most → sumL f most c l = sumL f most c (l.take i)
  | [], c, i, _ => by simp
  | a :: l, c, 0, h => by
    simp only [List.take_zero, sumL] at h ⊢
    rw [if_neg h]
  | a :: l, c, i + 1, h => by
    rw [List.take_succ_cons] at h ⊢
    by_cases hm : c ≤ most
    · rw [sumL, if_pos hm] at h
      rw [sumL, if_pos hm, sumL, if_pos hm]
      exact sumL_stop h
    · rw [sumL, if_neg hm, sumL, if_neg hm]
theorem sumL_ge {f : Int → Ty → Int} {most : Int} : ∀ {l : List Ty} {c : Int}, (∀ p ∈ l, ∀ k, 0 ≤ k → 0 ≤ f k p) → c ≤ sumL f most c l
  | [], c, _ => by simp [sumL]
  | a :: l, c, h => by
    rw [sumL]
    split
    · have h1 := sumL_ge (f := f) (most := most) (l := l) (c := c + f (most - c) a) fun p hp => h p (List.mem_cons_of_mem _ hp)
      have h2 := h a List.mem_cons_self (most - c) (by omega)
      omega
    · omega
/-- What size says lies between 1 and one more than most. -/
theorem size_bounds : ∀ (d : Nat) (most : Int) (t : Ty), 0 ≤ most → 1 ≤ sizeF d most t ∧ sizeF d most t ≤ most + 1
  | 0, most, t, h => by rw [sizeF]; omega
  | d + 1, most, t, h => by
    rw [sizeF]
    split
    · omega
    · have key : ∀ (l : List Ty) (c : Int), 1 ≤ c → c ≤ most + 1 → 1 ≤ sumL (sizeF d) most c l ∧ sumL (sizeF d) most c l ≤ most + 1 := by
        intro l
        induction l with
        | nil => intro c h1 h2; rw [sumL]; exact ⟨h1, h2⟩
        | cons a l ih =>
          intro c h1 h2
          rw [sumL]
          split
          · have := size_bounds d (most - c) a (by omega)
            exact ih _ (by omega) (by omega)
          · exact ⟨h1, h2⟩
      exact key _ 1 (by omega) (by omega)
/-- What is small is small. -/
theorem size_cnt : ∀ (d : Nat) (most : Int) (t : Ty), 0 ≤ most → sizeF d most t ≤ most → (t.cnt : Int) ≤ sizeF d most t * (most + 1) ∧ t.depth ≤ d
  | 0, most, t, _, h => by rw [sizeF] at h; omega
  | d + 1, most, t, h0, h => by
    obtain ⟨k, ns, ps⟩ := t
    rw [sizeF, names_mk, parts_mk] at h
    rw [sizeF, names_mk, parts_mk]
    split at h
    · omega
    · rename_i hn
      rw [if_neg hn]
      have key : ∀ (l : List Ty) (c : Int), 1 ≤ c → sumL (sizeF d) most c l ≤ most → (cntL l : Int) + c * (most + 1) ≤ sumL (sizeF d) most c l * (most + 1) ∧ depthL l ≤ d := by
        intro l
        induction l with
        | nil => intro c _ _; simp [sumL, cntL, depthL]
        | cons a l ih =>
          intro c h1 h2
          rw [sumL] at h2 ⊢
          split at h2
          · rename_i hc
            rw [if_pos hc]
            have hge : c + sizeF d (most - c) a ≤ most := by
              have := sumL_ge (f := sizeF d) (most := most) (l := l) (c := c + sizeF d (most - c) a) (fun p _ k hk => by have := size_bounds d k p hk; omega)
              omega
            have b1 := size_bounds d (most - c) a (by omega)
            obtain ⟨i1, i2⟩ := size_cnt d (most - c) a (by omega) (by omega)
            obtain ⟨j1, j2⟩ := ih _ (by omega) h2
            rw [cntL, depthL]
            refine ⟨?_, by omega⟩
            have e1 : sizeF d (most - c) a * (most - c + 1) ≤ sizeF d (most - c) a * (most + 1) := Int.mul_le_mul_of_nonneg_left (by omega) (by omega)
            have e2 : (c + sizeF d (most - c) a) * (most + 1) = c * (most + 1) + sizeF d (most - c) a * (most + 1) := Int.add_mul _ _ _
            push_cast
            omega
          · omega
      obtain ⟨k1, k2⟩ := key ps 1 (by omega) h
      rw [Ty.cnt, Ty.depth]
      refine ⟨?_, by omega⟩
      push_cast
      omega
def Ty.light (t : Ty) : Bool := decide (sizeF 30 200 t ≤ 200)
theorem light_cnt {t : Ty} (h : t.light = true) : t.cnt ≤ 41000 ∧ t.depth ≤ 30 := by
  have h := of_decide_eq_true h
  obtain ⟨h1, h2⟩ := size_cnt 30 200 t (by omega) h
  refine ⟨?_, h2⟩
  have : sizeF 30 200 t * (200 + 1) ≤ 200 * (200 + 1) := Int.mul_le_mul_of_nonneg_right h (by omega)
  omega

set_option maxHeartbeats 4000000 in
set_option maxRecDepth 100000 in
theorem size_step (dp : Nat) (hdp : dp ≤ 1000)
    (IH : ∀ (t : Ty) (most : Int), 0 ≤ most → most ≤ 100000 → ∀ (w : World) (P : Nat → Prop) (An : Option Addr) (cn : Nat) (A : Option Addr) (c : Nat), TI w P t An cn A c → Calls Tryd.prog 49 #[tv t An cn A c, .int .i64 most, .int .i64 (dp : Int)] w fun e w' => e = .returned (.int .i64 (sizeF dp most t)) ∧ Below w.heap.size w w')
    (most : Int) (h0 : 0 ≤ most) (h1 : most ≤ 100000) (w : World) (P : Nat → Prop) (k : Int) (ns : List ByteArray) (ps : List Ty) (An : Option Addr) (cn : Nat) (A : Option Addr) (c : Nat) (h : TV w P ps A c) (r : Int) (hr : r = sizeF (dp + 1) most (.mk k ns ps)) (dq : Nat) (hdq : dq = dp + 1) :
    Calls Tryd.prog 49 #[.agg #[.int .i64 k, .slice An ns.length cn, .slice A ps.length c], .int .i64 most, .int .i64 (dq : Int)] w fun e w' => e = .returned (.int .i64 r) ∧ Below w.heap.size w w' := by
  obtain ⟨m, hm⟩ : ∃ m, m = ns.length := ⟨_, rfl⟩
  obtain ⟨n, hn⟩ : ∃ n, n = ps.length := ⟨_, rfl⟩
  rw [sizeF, names_mk, parts_mk, ← hm] at hr
  rw [← hm, ← hn]
  have HK := Lib.hid (h.below (bel1 w (.cells #[.int .i64 k, .slice An m cn, .slice A n c] 28)))
  have R0 := Lib.hid (RowB.new w 28 #[.int .i64 k, .slice An m cn, .slice A n c])
  have B0 := Lib.hid (bel1 w (.cells #[.int .i64 k, .slice An m cn, .slice A n c] 28))
  have HI := Lib.hid IH
  have HN := Lib.hid hn
  have HR := Lib.hid hr
  have rc := R0.out.cell
  have d1 : ((dq : Int) == 0) = false := by rw [beq_eq_false_iff_ne]; omega
  have HDQ := Lib.hid hdq
  clear h IH hn hm hr hdq
  by_cases hmm : (m : Int) > most
  · have HF : Hid (r = most + 1) := by unfold Hid; rw [HR.out, if_pos hmm]
    have e1 : IntKind.i64.wrap (most + 1) = most + 1 := by rw [IntKind.wrap_i64]; omega
    go_enter Tryd.func49, Tryd.ntmps49
    go_wp2_with fail
    (first | go_ret | go_ret2)
    exact ⟨by rw [HF.out]; rfl, B0.out⟩
  have HF : Hid (r = sumL (sizeF dp) most 1 ps) := by unfold Hid; rw [HR.out, if_neg hmm]
  go_enter Tryd.func49, Tryd.ntmps49
  go_wp2_with fail
  obtain ⟨W, hW⟩ : ∃ W, W = w.alloc (.cells #[.int .i64 k, .slice An m cn, .slice A n c] 28) := ⟨_, rfl⟩
  rw [← hW] at HK R0 B0 rc ⊢
  clear hW rc HR
  go_loopg [7, 8] (200001) (fun kx s7 s8 wr => ∃ (i : Nat) (d : Int), s7 = .int .i64 d ∧ s8 = .int .i64 i ∧ 200001 - i ≤ kx ∧ i ≤ n ∧ 1 ≤ d ∧ d ≤ most + 1 ∧ (i : Int) + 1 ≤ d ∧ Hid (d = sumL (sizeF dp) most 1 (ps.take i)) ∧ Hid (Below W.heap.size W wr))
  case atStart => exact ⟨0, 1, rfl, rfl, by omega, by omega, by omega, by omega, by omega, by simp [Hid, sumL], Below.refl _ _⟩
  case round =>
    obtain ⟨i, d, rfl, rfl, hkx, hin, hd1, hd2, hid, HDD, HB⟩ := hrel
    have R1 := Lib.hid (R0.out.below HB.out R0.out.lt)
    have rc := R1.out.cell
    by_cases hi : i < n
    · have hil : (i : Int) < (n : Int) := by omega
      by_cases hdm : d ≤ most
      · obtain ⟨t, e⟩ := get_of_lt (l := ps) (i := i) (by rw [← HN.out]; exact hi)
        obtain ⟨g, o, An2, cn2, A2, c2, hA, hP, hg, hti, z0, z1, z2⟩ := (HK.out.below HB.out).nth e
        have CC := Lib.hid (HI.out t (most - d) (by omega) (by omega) wr P An2 cn2 A2 c2 hti)
        have HT : Hid (sumL (sizeF dp) most 1 (ps.take (i + 1)) = d + sizeF dp (most - d) t) := by
          have := sumL_take (f := sizeF dp) (most := most) (c := 1) e (by rw [← HDD.out]; exact hdm)
          unfold Hid
          rw [this, ← HDD.out]
        have bd := size_bounds dp (most - d) t (by omega)
        obtain ⟨q, hq⟩ : ∃ q, q = sizeF dp (most - d) t := ⟨_, rfl⟩
        rw [← hq] at CC HT bd
        obtain ⟨b1, b2⟩ := bd
        subst hA
        obtain ⟨j, hj⟩ : ∃ j, j = i + 1 := ⟨_, rfl⟩
        have e1 : IntKind.i64.wrap (most - d) = most - d := by rw [IntKind.wrap_i64]; omega
        have e2 : IntKind.i64.wrap ((dq : Int) - 1) = (dp : Int) := by have := HDQ.out; rw [IntKind.wrap_i64]; omega
        have e3 : IntKind.i64.wrap (d + q) = d + q := by rw [IntKind.wrap_i64]; omega
        obtain ⟨kt, nt, pt⟩ := t
        simp only [kind_mk, names_mk, parts_mk] at z0 z1 z2 CC
        clear e hti hq
        go_wp2_with fail
        refine CC.out.mono ?_
        rintro e w2 ⟨rfl, h2⟩
        have HB2 := Lib.hid (HB.out.trans (h2.mono HB.out.size))
        clear h2 CC z0 z1 z2 rc
        go_wp2_with fail
        go_roundg (200001 - j)
        case measure => omega
        case rel => exact ⟨j, d + q, by first | rfl | simp, by rw [hj]; go_num, by omega, by omega, by omega, by omega, by omega, by rw [hj]; exact HT.out.symm, HB2.out⟩
      · go_wp2_with fail
        (first | go_ret | go_ret2)
        refine ⟨?_, B0.out.trans (HB.out.mono B0.out.size)⟩
        have h1 := HDD.out
        rw [HF.out, sumL_stop (i := i) (by rw [← h1]; omega), ← h1]
        rfl
    · have hil : ¬ (i : Int) < (n : Int) := by omega
      go_wp2_with fail
      (first | go_ret | go_ret2)
      refine ⟨?_, B0.out.trans (HB.out.mono B0.out.size)⟩
      have h1 := HDD.out
      rw [List.take_of_length_le (by rw [← HN.out]; omega)] at h1
      rw [HF.out, ← h1]
      rfl
set_option maxHeartbeats 4000000 in
set_option maxRecDepth 100000 in
theorem size_any : ∀ (d : Nat), d ≤ 1000 → ∀ (t : Ty) (most : Int), 0 ≤ most → most ≤ 100000 → ∀ (w : World) (P : Nat → Prop) (An : Option Addr) (cn : Nat) (A : Option Addr) (c : Nat), TI w P t An cn A c → Calls Tryd.prog 49 #[tv t An cn A c, .int .i64 most, .int .i64 (d : Int)] w fun e w' => e = .returned (.int .i64 (sizeF d most t)) ∧ Below w.heap.size w w'
  | 0, _, .mk k ns ps, most, h0, h1, w, P, An, cn, A, c, h => by
    have e1 : IntKind.i64.wrap (most + 1) = most + 1 := by rw [IntKind.wrap_i64]; omega
    have B0 := Lib.hid (bel1 w (.cells #[.int .i64 k, .slice An ns.length cn, .slice A ps.length c] 28))
    clear h
    simp only [sizeF]
    go_enter Tryd.func49, Tryd.ntmps49
    go_wp2_with fail
    (first | go_ret | go_ret2)
    exact ⟨rfl, B0.out⟩
  | d + 1, hd, .mk k ns ps, most, h0, h1, w, P, An, cn, A, c, h => size_step d (by omega) (fun t most h0 h1 => size_any d (by omega) t most h0 h1) most h0 h1 w P k ns ps An cn A c (TI_iff.1 h).2 _ rfl (d + 1) rfl

set_option maxHeartbeats 2000000 in
set_option maxRecDepth 100000 in
theorem small_any (w : World) (t : Ty) (P : Nat → Prop) (An : Option Addr) (cn : Nat) (A : Option Addr) (c : Nat) (h : TI w P t An cn A c) :
    Calls Tryd.prog 33 #[tv t An cn A c, .int .i64 200, .int .i64 30] w fun e w' => e = .returned (.bool t.light) ∧ Below w.heap.size w w' := by
  have B0 := Lib.hid (bel1 w (.cells #[.int .i64 t.kind, .slice An t.names.length cn, .slice A t.parts.length c] 28))
  have R0 := Lib.hid (RowB.new w 28 #[.int .i64 t.kind, .slice An t.names.length cn, .slice A t.parts.length c])
  have rc := R0.out.cell
  have C := Lib.hid (size_any 30 (by omega) t 200 (by omega) (by omega) _ P An cn A c (h.below B0.out))
  obtain ⟨q, hq⟩ : ∃ q, q = sizeF 30 200 t := ⟨_, rfl⟩
  have HL : Hid (t.light = decide (q ≤ 200)) := by unfold Hid Ty.light; rw [hq]
  rw [← hq] at C
  rw [HL.out]
  clear h hq HL
  obtain ⟨k, ns, ps⟩ := t
  simp only [kind_mk, names_mk, parts_mk] at C rc B0 R0 ⊢
  go_enter Tryd.func33, Tryd.ntmps33
  go_wp2_with fail
  refine C.out.mono ?_
  rintro e w1 ⟨rfl, h1⟩
  have HB := Lib.hid (B0.out.trans (h1.mono B0.out.size))
  clear h1 C rc
  go_wp2_with fail
  (first | go_ret | go_ret2)
  exact ⟨rfl, HB.out⟩
set_option maxHeartbeats 2000000 in
set_option maxRecDepth 100000 in
theorem light_any (w : World) (t : Ty) (P : Nat → Prop) (An : Option Addr) (cn : Nat) (A : Option Addr) (c : Nat) (h : TI w P t An cn A c) :
    Calls Tryd.prog 9 #[tv t An cn A c] w fun e w' => e = .returned (.bool t.light) ∧ Below w.heap.size w w' := by
  have B0 := Lib.hid (bel1 w (.cells #[.int .i64 t.kind, .slice An t.names.length cn, .slice A t.parts.length c] 28))
  have R0 := Lib.hid (RowB.new w 28 #[.int .i64 t.kind, .slice An t.names.length cn, .slice A t.parts.length c])
  have rc := R0.out.cell
  have C := Lib.hid (small_any _ t P An cn A c (h.below B0.out))
  generalize t.light = b at *
  clear h
  obtain ⟨k, ns, ps⟩ := t
  simp only [kind_mk, names_mk, parts_mk] at C rc B0 R0 ⊢
  go_enter Tryd.func9, Tryd.ntmps9
  go_wp2_with fail
  refine C.out.mono ?_
  rintro e w1 ⟨rfl, h1⟩
  have HB := Lib.hid (B0.out.trans (h1.mono B0.out.size))
  clear h1 C rc
  go_wp2_with fail
  (first | go_ret | go_ret2)
  exact ⟨rfl, HB.out⟩
end Tm
end Go.Proofs.YtbjlhdjcdinmhaaDoor
