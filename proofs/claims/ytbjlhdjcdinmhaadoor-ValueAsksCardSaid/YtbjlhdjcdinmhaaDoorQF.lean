/- Contracts: whether a value is small enough. -/
import Derived.Test.YtbjlhdjcdinmhaaDoorQE
namespace Go.Proofs.YtbjlhdjcdinmhaaDoor
open Go.RowKit Go.Op
namespace Vm
/-- How many parts have been counted, c so far. -/
def sumL (f : Int → Vl → Int) (most : Int) : Int → List Vl → Int
  | c, [] => c
  | c, p :: ps => if c ≤ most then sumL f most (c + f (most - c) p) ps else c
/-- How many bytes of names have been counted. -/
def sumN (most : Int) : Int → List ByteArray → Int
  | c, [] => c
  | c, x :: xs => if c ≤ most then sumN most (c + x.size) xs else c
def sizeF : Nat → Int → Vl → Int
  | 0, most, _ => most + 1
  | d + 1, most, v => if (v.names.length : Int) > most then most + 1 else if (v.hd.s.size : Int) > most then most + 1 else sumN most (sumL (sizeF d) most (1 + v.hd.s.size) v.parts) v.names
theorem sumL_take {f : Int → Vl → Int} {most : Int} : ∀ {l : List Vl} {c : Int} {i : Nat} {t : Vl}, l[i]? = some t → sumL f most c (l.take i) ≤ most → sumL f most c (l.take (i + 1)) = sumL f most c (l.take i) + f (most - sumL f most c (l.take i)) t
  | [], c, i, t, h, _ => by simp at h
  | a :: l, c, 0, t, h, hc => by
    obtain rfl : a = t := by simpa using h
    simp only [List.take_zero, sumL] at hc
    simp [sumL, hc]
  | a :: l, c, i + 1, t, h, hc => by
    rw [List.take_succ_cons] at hc
    rw [List.take_succ_cons, List.take_succ_cons]
    by_cases hm : c ≤ most
    · rw [sumL, if_pos hm] at hc
      rw [sumL, if_pos hm, sumL, if_pos hm]
      exact sumL_take (by simpa using h) hc
    · rw [sumL, if_neg hm] at hc
      exact absurd hc hm
theorem sumL_stop {f : Int → Vl → Int} {most : Int} : ∀ {l : List Vl} {c : Int} {i : Nat}, ¬ sumL f most c (l.take i) ≤ most → sumL f most c l = sumL f most c (l.take i)
  | [], c, i, _ => by simp
  | a :: l, c, 0, h => by
    simp only [List.take_zero, sumL] at h ⊢
    rw [if_neg h]
  | a :: l, c, i + 1, h => by
    rw [List.take_succ_cons] at h ⊢
    by_cases hm : c ≤ most
    · rw [sumL, if_pos hm] at h
      rw [sumL, if_pos hm, sumL, if_pos hm]
      exact sumL_stop h
    · rw [sumL, if_neg hm, sumL, if_neg hm]
theorem sumL_ge {f : Int → Vl → Int} {most : Int} : ∀ {l : List Vl} {c : Int}, (∀ p ∈ l, ∀ k, 0 ≤ k → 0 ≤ f k p) → c ≤ sumL f most c l
  | [], c, _ => by simp [sumL]
  | a :: l, c, h => by
    rw [sumL]
    split
    · have h1 := sumL_ge (f := f) (most := most) (l := l) (c := c + f (most - c) a) fun p hp => h p (List.mem_cons_of_mem _ hp)
      have h2 := h a List.mem_cons_self (most - c) (by omega)
      omega
    · omega
theorem sumN_take {most : Int} : ∀ {l : List ByteArray} {c : Int} {i : Nat} {x : ByteArray}, l[i]? = some x → sumN most c (l.take i) ≤ most → sumN most c (l.take (i + 1)) = sumN most c (l.take i) + x.size
  | [], c, i, x, h, _ => by simp at h
  | a :: l, c, 0, x, h, hc => by
    obtain rfl : a = x := by simpa using h
    simp only [List.take_zero, sumN] at hc
    simp [sumN, hc]
  | a :: l, c, i + 1, x, h, hc => by
    rw [List.take_succ_cons] at hc
    rw [List.take_succ_cons, List.take_succ_cons]
    by_cases hm : c ≤ most
    · rw [sumN, if_pos hm] at hc
      rw [sumN, if_pos hm, sumN, if_pos hm]
      exact sumN_take (by simpa using h) hc
    · rw [sumN, if_neg hm] at hc
      exact absurd hc hm
theorem sumN_stop {most : Int} : ∀ {l : List ByteArray} {c : Int} {i : Nat}, ¬ sumN most c (l.take i) ≤ most → sumN most c l = sumN most c (l.take i)
  | [], c, i, _ => by simp
  | a :: l, c, 0, h => by
    simp only [List.take_zero, sumN] at h ⊢
    rw [if_neg h]
  | a :: l, c, i + 1, h => by
    rw [List.take_succ_cons] at h ⊢
    by_cases hm : c ≤ most
    · rw [sumN, if_pos hm] at h
      rw [sumN, if_pos hm, sumN, if_pos hm]
      exact sumN_stop h
    · rw [sumN, if_neg hm, sumN, if_neg hm]
theorem sumN_ge {most : Int} : ∀ {l : List ByteArray} {c : Int}, c ≤ sumN most c l
  | [], c => by simp [sumN]
  | a :: l, c => by
    rw [sumN]
    split
    · have h1 := sumN_ge (most := most) (l := l) (c := c + a.size)
      omega
    · omega
abbrev BN : Int := 140737488351233
mutual
/-- No name is too long. -/
def Vl.nsz : Vl → Prop
  | .mk _ ns ps => (∀ s ∈ ns, s.size ≤ 140737488351232) ∧ nszL ps
def nszL : List Vl → Prop
  | [] => True
  | v :: vs => v.nsz ∧ nszL vs
end
theorem nszL_mem : ∀ {l : List Vl} {v : Vl}, nszL l → v ∈ l → v.nsz
  | a :: l, v, h, hv => by
    rw [nszL] at h
    rcases List.mem_cons.1 hv with rfl | hv
    · exact h.1
    · exact nszL_mem h.2 hv
mutual
theorem VI.nsz {w : World} {P : Nat → Prop} : ∀ {v : Vl} {An : Option Addr} {cn : Nat} {A : Option Addr} {c : Nat}, VI w P v An cn A c → v.nsz
  | .mk _ _ ps, _, _, _, _, h => by
    rw [VI] at h
    rw [Vl.nsz]
    refine ⟨h.1.2.1, ?_⟩
    match ps, h.2.2 with
    | [], _ => rw [nszL]; trivial
    | p :: ps', k =>
      obtain ⟨g, o, ck, _, _, _, _, hl⟩ := k (by simp)
      exact VL.nsz hl
theorem VL.nsz {w : World} {P : Nat → Prop} : ∀ {l : List Vl} {cs : List Value}, VL w P l cs → nszL l
  | [], _, _ => by rw [nszL]; trivial
  | v :: vs, _, h => by
    rw [VL] at h
    obtain ⟨An, cn, A, c, cs', _, h1, h2⟩ := h
    rw [nszL]
    exact ⟨VI.nsz h1, VL.nsz h2⟩
end
theorem sumN_le {most : Int} : ∀ {l : List ByteArray} {c : Int}, (∀ s ∈ l, s.size ≤ 140737488351232) → c ≤ most + BN → sumN most c l ≤ most + BN
  | [], c, _, h => by rw [sumN]; exact h
  | a :: l, c, hs, h => by
    rw [sumN]
    split
    · have := hs a List.mem_cons_self
      exact sumN_le (fun s hs' => hs s (List.mem_cons_of_mem _ hs')) (by unfold BN; omega)
    · exact h
theorem sumL_le {f : Int → Vl → Int} {most : Int} : ∀ {l : List Vl} {c : Int}, (∀ p ∈ l, ∀ k, 0 ≤ k → 1 ≤ f k p ∧ f k p ≤ k + BN) → 1 ≤ c → c ≤ most + BN → 1 ≤ sumL f most c l ∧ sumL f most c l ≤ most + BN
  | [], c, _, h1, h => by rw [sumL]; exact ⟨h1, h⟩
  | a :: l, c, hs, h1, h => by
    rw [sumL]
    split
    · have := hs a List.mem_cons_self (most - c) (by omega)
      exact sumL_le (fun s hs' => hs s (List.mem_cons_of_mem _ hs')) (by omega) (by unfold BN at *; omega)
    · exact ⟨h1, h⟩
theorem size_bounds : ∀ (d : Nat) (most : Int) (v : Vl), 0 ≤ most → v.nsz → 1 ≤ sizeF d most v ∧ sizeF d most v ≤ most + BN
  | 0, most, v, h, _ => by rw [sizeF]; unfold BN; omega
  | d + 1, most, v, h, hn => by
    obtain ⟨k, ns, ps⟩ := v
    rw [Vl.nsz] at hn
    rw [sizeF, names_mk, parts_mk, hd_mk]
    split
    · unfold BN; omega
    · split
      · unfold BN; omega
      · have h1 := sumL_le (f := sizeF d) (most := most) (l := ps) (c := 1 + k.s.size) (fun p hp k hk => size_bounds d k p hk (nszL_mem hn.2 hp)) (by omega) (by unfold BN; omega)
        refine ⟨?_, sumN_le hn.1 h1.2⟩
        have := sumN_ge (most := most) (l := ns) (c := sumL (sizeF d) most (1 + k.s.size) ps)
        omega
mutual
/-- How many bytes a value's texts and names have, and one for each part. -/
def Vl.byt : Vl → Nat
  | .mk h ns ps => 1 + h.s.size + (ns.map fun s => s.size).sum + bytL ps
def bytL : List Vl → Nat
  | [] => 0
  | v :: vs => v.byt + bytL vs
end
theorem byt_mem {v : Vl} : ∀ {l : List Vl}, v ∈ l → v.byt ≤ bytL l
  | a :: l, h => by
    rw [bytL]
    rcases List.mem_cons.1 h with rfl | h
    · omega
    · have := byt_mem h; omega
theorem sumN_all {most : Int} : ∀ {l : List ByteArray} {c : Int}, sumN most c l ≤ most → sumN most c l = c + ((l.map fun s => s.size).sum : Nat)
  | [], c, _ => by simp [sumN]
  | a :: l, c, h => by
    rw [sumN] at h ⊢
    split at h
    · rename_i hc
      rw [if_pos hc, sumN_all h]
      simp only [List.map_cons, List.sum_cons]
      push_cast
      omega
    · omega
/-- What is small is small. -/
theorem size_cnt : ∀ (d : Nat) (most : Int) (v : Vl), 0 ≤ most → v.nsz → sizeF d most v ≤ most → (v.byt : Int) ≤ sizeF d most v ∧ (v.cnt : Int) ≤ sizeF d most v * (most + 1) ∧ v.depth ≤ d
  | 0, most, v, _, _, h => by rw [sizeF] at h; omega
  | d + 1, most, v, h0, hz, h => by
    obtain ⟨k, ns, ps⟩ := v
    rw [Vl.nsz] at hz
    rw [sizeF, names_mk, parts_mk, hd_mk] at h
    rw [sizeF, names_mk, parts_mk, hd_mk]
    split at h
    · omega
    · rename_i hn
      rw [if_neg hn]
      split at h
      · omega
      · rename_i hs
        rw [if_neg hs]
        have hb : ∀ p ∈ ps, ∀ k, 0 ≤ k → 1 ≤ sizeF d k p ∧ sizeF d k p ≤ k + BN := fun p hp k hk => size_bounds d k p hk (nszL_mem hz.2 hp)
        have key : ∀ (l : List Vl) (c : Int), (∀ p ∈ l, p ∈ ps) → 1 ≤ c → sumL (sizeF d) most c l ≤ most → (bytL l : Int) + c ≤ sumL (sizeF d) most c l ∧ (cntL l : Int) + c * (most + 1) ≤ sumL (sizeF d) most c l * (most + 1) ∧ depthL l ≤ d := by
          intro l
          induction l with
          | nil => intro c _ _ _; simp [sumL, cntL, depthL, bytL]
          | cons a l ih =>
            intro c hm h1 h2
            rw [sumL] at h2 ⊢
            split at h2
            · rename_i hc
              rw [if_pos hc]
              have b1 := hb a (hm a List.mem_cons_self) (most - c) (by omega)
              have hge : c + sizeF d (most - c) a ≤ most := by
                have := sumL_ge (f := sizeF d) (most := most) (l := l) (c := c + sizeF d (most - c) a) (fun p hp k hk => by have := hb p (hm p (List.mem_cons_of_mem _ hp)) k hk; omega)
                omega
              obtain ⟨i0, i1, i2⟩ := size_cnt d (most - c) a (by omega) (nszL_mem hz.2 (hm a List.mem_cons_self)) (by omega)
              obtain ⟨j0, j1, j2⟩ := ih _ (fun p hp => hm p (List.mem_cons_of_mem _ hp)) (by omega) h2
              rw [cntL, depthL, bytL]
              have e1 : sizeF d (most - c) a * (most - c + 1) ≤ sizeF d (most - c) a * (most + 1) := Int.mul_le_mul_of_nonneg_left (by omega) (by omega)
              have e2 : (c + sizeF d (most - c) a) * (most + 1) = c * (most + 1) + sizeF d (most - c) a * (most + 1) := Int.add_mul _ _ _
              refine ⟨?_, ?_, by omega⟩
              · push_cast
                omega
              · push_cast
                omega
            · omega
        have e0 := sumN_all h
        rw [e0] at h ⊢
        obtain ⟨k0, k1, k2⟩ := key ps (1 + k.s.size) (fun _ h => h) (by omega) (by omega)
        rw [Vl.cnt, Vl.depth, Vl.byt]
        have e3 : (sumL (sizeF d) most (1 + k.s.size) ps + ((ns.map fun s => s.size).sum : Nat)) * (most + 1) = sumL (sizeF d) most (1 + k.s.size) ps * (most + 1) + ((ns.map fun s => s.size).sum : Nat) * (most + 1) := Int.add_mul _ _ _
        have e4 : (1 + (k.s.size : Int)) * (most + 1) = (most + 1) + k.s.size * (most + 1) := by rw [Int.add_mul, Int.one_mul]
        have e5 : 0 ≤ (k.s.size : Int) * (most + 1) := Int.mul_nonneg (by omega) (by omega)
        have e6 : 0 ≤ (((ns.map fun s => s.size).sum : Nat) : Int) * (most + 1) := Int.mul_nonneg (by omega) (by omega)
        refine ⟨by push_cast; omega, ?_, by omega⟩
        push_cast
        omega
def Vl.light (v : Vl) : Bool := decide (sizeF 30 500 v ≤ 500)
theorem light_cnt {v : Vl} (hz : v.nsz) (h : v.light = true) : v.byt ≤ 500 ∧ v.cnt ≤ 250500 ∧ v.depth ≤ 30 := by
  have h := of_decide_eq_true h
  obtain ⟨h0, h1, h2⟩ := size_cnt 30 500 v (by omega) hz h
  refine ⟨by omega, ?_, h2⟩
  have : sizeF 30 500 v * (500 + 1) ≤ 500 * (500 + 1) := Int.mul_le_mul_of_nonneg_right h (by omega)
  omega
set_option maxHeartbeats 8000000 in
set_option maxRecDepth 100000 in
theorem size_step (dp : Nat) (hdp : dp ≤ 1000)
    (IH : ∀ (v : Vl) (most : Int), 0 ≤ most → most ≤ 100000 → ∀ (w : World) (P : Nat → Prop) (An : Option Addr) (cn : Nat) (A : Option Addr) (c : Nat), VI w P v An cn A c → Calls Tryd.prog 48 #[vv v An cn A c, .int .i64 most, .int .i64 (dp : Int)] w fun e w' => e = .returned (.int .i64 (sizeF dp most v)) ∧ Below w.heap.size w w')
    (most : Int) (h0 : 0 ≤ most) (h1 : most ≤ 100000) (w : World) (P : Nat → Prop) (k : VH) (ns : List ByteArray) (ps : List Vl) (An : Option Addr) (cn : Nat) (A : Option Addr) (c : Nat) (hNN : NV w P ns An cn) (h : VV w P ps A c) (hz : nszL ps) (r : Int) (hr : r = sizeF (dp + 1) most (.mk k ns ps)) (dq : Nat) (hdq : dq = dp + 1) :
    Calls Tryd.prog 48 #[.agg #[.int .i64 k.kind, .int .i64 k.n, .string k.s, .slice An ns.length cn, .slice A ps.length c], .int .i64 most, .int .i64 (dq : Int)] w fun e w' => e = .returned (.int .i64 r) ∧ Below w.heap.size w w' := by
  obtain ⟨m, hm⟩ : ∃ m, m = ns.length := ⟨_, rfl⟩
  obtain ⟨n, hn⟩ : ∃ n, n = ps.length := ⟨_, rfl⟩
  rw [sizeF, names_mk, parts_mk, hd_mk, ← hm] at hr
  rw [← hm, ← hn]
  have HK := Lib.hid (h.below (bel1 w (.cells (varr k An m cn A n c) 25)))
  have HNN := Lib.hid (hNN.below (bel1 w (.cells (varr k An m cn A n c) 25)))
  have R0 := Lib.hid (RowB.new w 25 (varr k An m cn A n c))
  have B0 := Lib.hid (bel1 w (.cells (varr k An m cn A n c) 25))
  have HI := Lib.hid IH
  have HN := Lib.hid hn
  have HM := Lib.hid hm
  have HR := Lib.hid hr
  have HZ := Lib.hid hz
  have rc := R0.out.cell
  have d1 : ((dq : Int) == 0) = false := by rw [beq_eq_false_iff_ne]; omega
  have HDQ := Lib.hid hdq
  have e1 : IntKind.i64.wrap (most + 1) = most + 1 := by rw [IntKind.wrap_i64]; omega
  clear h IH hn hm hr hdq hNN hz
  by_cases hmm : (m : Int) > most
  · have HF : Hid (r = most + 1) := by unfold Hid; rw [HR.out, if_pos hmm]
    go_enter Tryd.func48, Tryd.ntmps48
    go_wp2_with fail
    (first | go_ret | go_ret2)
    exact ⟨by rw [HF.out]; rfl, B0.out⟩
  by_cases hss : (k.s.size : Int) > most
  · have HF : Hid (r = most + 1) := by unfold Hid; rw [HR.out, if_neg hmm, if_pos hss]
    go_enter Tryd.func48, Tryd.ntmps48
    go_wp2_with fail
    (first | go_ret | go_ret2)
    exact ⟨by rw [HF.out]; rfl, B0.out⟩
  have HF : Hid (r = sumN most (sumL (sizeF dp) most (1 + k.s.size) ps) ns) := by unfold Hid; rw [HR.out, if_neg hmm, if_neg hss]
  have HSB : Hid (∀ i, 1 ≤ sumL (sizeF dp) most (1 + k.s.size) (ps.take i) ∧ sumL (sizeF dp) most (1 + k.s.size) (ps.take i) ≤ most + BN) := fun i => sumL_le (fun p hp k hk => size_bounds dp k p hk (nszL_mem HZ.out (tkmem hp))) (by omega) (by unfold BN; omega)
  have e9 : IntKind.i64.wrap (1 + (k.s.size : Int)) = 1 + (k.s.size : Int) := by rw [IntKind.wrap_i64]; omega
  go_enter Tryd.func48, Tryd.ntmps48
  go_wp2_with fail
  obtain ⟨W, hW⟩ : ∃ W, W = w.alloc (.cells (varr k An m cn A n c) 25) := ⟨_, rfl⟩
  rw [← hW] at HK HNN R0 B0 rc ⊢
  clear hW rc HR
  go_loopg [7, 8] (200001) (fun kx s7 s8 wr => ∃ (i : Nat) (d : Int), s7 = .int .i64 d ∧ s8 = .int .i64 i ∧ 200001 - i ≤ kx ∧ i ≤ n ∧ 1 ≤ d ∧ d ≤ most + BN ∧ (i = 0 ∨ ∃ d0 : Int, (i : Int) ≤ d0 ∧ d0 ≤ most) ∧ (i : Int) + 1 ≤ d ∧ Hid (d = sumL (sizeF dp) most (1 + k.s.size) (ps.take i)) ∧ Hid (Below W.heap.size W wr))
  case atStart => exact ⟨0, 1 + k.s.size, rfl, rfl, by omega, by omega, by omega, by unfold BN; omega, .inl rfl, by omega, by simp [Hid, sumL], Below.refl _ _⟩
  case round =>
    obtain ⟨i, d, rfl, rfl, hkx, hin, hd1, hd2, hid0, hid, HDD, HB⟩ := hrel
    unfold BN at hd2
    have R1 := Lib.hid (R0.out.below HB.out R0.out.lt)
    have rc := R1.out.cell
    have hib : i ≤ 100000 := by
      rcases hid0 with h | ⟨d0, h2, h3⟩
      · omega
      · omega
    clear hid0
    by_cases hgo : i < n ∧ d ≤ most
    · obtain ⟨hi, hdm⟩ := hgo
      have hil : (i : Int) < (n : Int) := by omega
      obtain ⟨t, e⟩ := get_lt (l := ps) (i := i) (by rw [← HN.out]; exact hi)
      obtain ⟨g, o, An2, cn2, A2, c2, hA, hP, hg, hti, z0, z1, z2, z3, z4⟩ := (HK.out.below HB.out).nth e
      have CC := Lib.hid (HI.out t (most - d) (by omega) (by omega) wr P An2 cn2 A2 c2 hti)
      have HT : Hid (sumL (sizeF dp) most (1 + k.s.size) (ps.take (i + 1)) = d + sizeF dp (most - d) t) := by
        have := sumL_take (f := sizeF dp) (most := most) (c := 1 + k.s.size) e (by rw [← HDD.out]; exact hdm)
        unfold Hid
        rw [this, ← HDD.out]
      have bd := size_bounds dp (most - d) t (by omega) (nszL_mem HZ.out (List.mem_of_getElem? e))
      unfold BN at bd
      obtain ⟨q, hq⟩ : ∃ q, q = sizeF dp (most - d) t := ⟨_, rfl⟩
      rw [← hq] at CC HT bd
      obtain ⟨b1, b2⟩ := bd
      subst hA
      obtain ⟨j, hj⟩ : ∃ j, j = i + 1 := ⟨_, rfl⟩
      have e2 : IntKind.i64.wrap (most - d) = most - d := by rw [IntKind.wrap_i64]; omega
      have e3 : IntKind.i64.wrap ((dq : Int) - 1) = (dp : Int) := by have := HDQ.out; rw [IntKind.wrap_i64]; omega
      have e4 : IntKind.i64.wrap (d + q) = d + q := by rw [IntKind.wrap_i64]; omega
      obtain ⟨kt, nt, pt⟩ := t
      simp only [vv, hd_mk, names_mk, parts_mk] at z0 z1 z2 z3 z4 CC
      clear e hti hq
      go_wp2_with fail
      refine CC.out.mono ?_
      rintro e w2 ⟨rfl, h2⟩
      have HB2 := Lib.hid (HB.out.trans (h2.mono HB.out.size))
      clear h2 CC z0 z1 z2 z3 z4 rc
      go_wp2_with fail
      go_roundg (200001 - j)
      case measure => omega
      case rel => exact ⟨j, d + q, by first | rfl | simp, by rw [hj]; go_num, by omega, by omega, by omega, by unfold BN; omega, .inr ⟨d, by omega, hdm⟩, by omega, by rw [hj]; exact HT.out.symm, HB2.out⟩
    · have HL : Hid (d = sumL (sizeF dp) most (1 + k.s.size) ps) := by
        unfold Hid
        by_cases hi : i < n
        · have hdm : ¬ d ≤ most := fun h => hgo ⟨hi, h⟩
          rw [sumL_stop (i := i) (by rw [← HDD.out]; exact hdm)]
          exact HDD.out
        · have := HDD.out
          rw [List.take_of_length_le (by rw [← HN.out]; omega)] at this
          exact this
      clear HDD
      rw [← HL.out] at HF
      have HSZ : Hid (∀ i, sumN most d (ns.take i) ≤ most + BN) := fun i => sumN_le (fun s hs => HNN.out.2.1 s (tkmem hs)) (by unfold BN; omega)
      by_cases hi : i < n
      · have hil : (i : Int) < (n : Int) := by omega
        have hdm : ¬ d ≤ most := fun h => hgo ⟨hi, h⟩
        clear hgo
        go_wp2_with fail
        go_loopg [7, 9] (m + 1) (fun kx s7 s9 wq => ∃ (i2 : Nat) (d2 : Int), s7 = .int .i64 d2 ∧ s9 = .int .i64 i2 ∧ m - i2 ≤ kx ∧ i2 ≤ m ∧ Hid (d2 = sumN most d (ns.take i2)) ∧ Hid (wq = wr))
        case atStart => exact ⟨0, d, rfl, rfl, by omega, by omega, by simp [Hid, sumN], rfl⟩
        case round =>
          obtain ⟨i2, d2, rfl, rfl, hkx2, hin2, HD2, HWQ⟩ := hrel
          obtain rfl := HWQ.out
          have rcq := R1.out.cell
          have rlq := R1.out.lt
          have hd2b : d2 ≤ most + BN := by rw [HD2.out]; exact HSZ.out i2
          have hd2g : d ≤ d2 := by rw [HD2.out]; exact sumN_ge
          unfold BN at hd2b
          by_cases hi2 : i2 < m
          · have hil2 : (i2 : Int) < (m : Int) := by omega
            by_cases hdm2 : d2 ≤ most
            · exfalso; omega
            · go_wp2_with fail
              (first | go_ret | go_ret2)
              refine ⟨?_, B0.out.trans (HB.out.mono B0.out.size)⟩
              rw [HF.out, sumN_stop (i := i2) (by rw [← HD2.out]; omega), ← HD2.out]
              rfl
          · have hil2 : ¬ (i2 : Int) < (m : Int) := by omega
            go_wp2_with fail
            (first | go_ret | go_ret2)
            refine ⟨?_, B0.out.trans (HB.out.mono B0.out.size)⟩
            have h1 := HD2.out
            rw [List.take_of_length_le (by rw [← HM.out]; omega)] at h1
            rw [HF.out, ← h1]
            rfl
      · have hil : ¬ (i : Int) < (n : Int) := by omega
        clear hgo
        go_wp2_with fail
        go_loopg [7, 9] (m + 1) (fun kx s7 s9 wq => ∃ (i2 : Nat) (d2 : Int), s7 = .int .i64 d2 ∧ s9 = .int .i64 i2 ∧ m - i2 ≤ kx ∧ i2 ≤ m ∧ Hid (d2 = sumN most d (ns.take i2)) ∧ Hid (wq = wr))
        case atStart => exact ⟨0, d, rfl, rfl, by omega, by omega, by simp [Hid, sumN], rfl⟩
        case round =>
          obtain ⟨i2, d2, rfl, rfl, hkx2, hin2, HD2, HWQ⟩ := hrel
          obtain rfl := HWQ.out
          have rcq := R1.out.cell
          have rlq := R1.out.lt
          have hd2b : d2 ≤ most + BN := by rw [HD2.out]; exact HSZ.out i2
          have hd2g : d ≤ d2 := by rw [HD2.out]; exact sumN_ge
          unfold BN at hd2b
          by_cases hi2 : i2 < m
          · have hil2 : (i2 : Int) < (m : Int) := by omega
            by_cases hdm2 : d2 ≤ most
            · obtain ⟨x, ex⟩ := get_lt (l := ns) (i := i2) (by rw [← HM.out]; exact hi2)
              obtain ⟨g, o, hA, _, hg, y0, hz0⟩ := (HNN.out.below HB.out).nth ex
              have HTN : Hid (sumN most d (ns.take (i2 + 1)) = d2 + x.size) := by
                have := sumN_take (most := most) (c := d) ex (by rw [← HD2.out]; exact hdm2)
                unfold Hid
                rw [this, ← HD2.out]
              obtain ⟨j, hj⟩ : ∃ j, j = i2 + 1 := ⟨_, rfl⟩
              have e5 : IntKind.i64.wrap (d2 + (x.size : Int)) = d2 + (x.size : Int) := by rw [IntKind.wrap_i64]; omega
              subst hA
              clear ex
              go_wp2_with fail
              go_roundg (m - j)
              case measure => omega
              case rel => exact ⟨j, d2 + x.size, by first | rfl | simp, by rw [hj]; go_num, by omega, by omega, by rw [hj]; exact HTN.out.symm, rfl⟩
            · go_wp2_with fail
              (first | go_ret | go_ret2)
              refine ⟨?_, B0.out.trans (HB.out.mono B0.out.size)⟩
              rw [HF.out, sumN_stop (i := i2) (by rw [← HD2.out]; omega), ← HD2.out]
              rfl
          · have hil2 : ¬ (i2 : Int) < (m : Int) := by omega
            go_wp2_with fail
            (first | go_ret | go_ret2)
            refine ⟨?_, B0.out.trans (HB.out.mono B0.out.size)⟩
            have h1 := HD2.out
            rw [List.take_of_length_le (by rw [← HM.out]; omega)] at h1
            rw [HF.out, ← h1]
            rfl
set_option maxHeartbeats 4000000 in
set_option maxRecDepth 100000 in
theorem size_any : ∀ (d : Nat), d ≤ 1000 → ∀ (v : Vl) (most : Int), 0 ≤ most → most ≤ 100000 → ∀ (w : World) (P : Nat → Prop) (An : Option Addr) (cn : Nat) (A : Option Addr) (c : Nat), VI w P v An cn A c → Calls Tryd.prog 48 #[vv v An cn A c, .int .i64 most, .int .i64 (d : Int)] w fun e w' => e = .returned (.int .i64 (sizeF d most v)) ∧ Below w.heap.size w w'
  | 0, _, .mk k ns ps, most, h0, h1, w, P, An, cn, A, c, h => by
    have e1 : IntKind.i64.wrap (most + 1) = most + 1 := by rw [IntKind.wrap_i64]; omega
    have B0 := Lib.hid (bel1 w (.cells (varr k An ns.length cn A ps.length c) 25))
    clear h
    simp only [vv, hd_mk, names_mk, parts_mk, sizeF]
    go_enter Tryd.func48, Tryd.ntmps48
    go_wp2_with fail
    (first | go_ret | go_ret2)
    exact ⟨rfl, B0.out⟩
  | d + 1, hd, .mk k ns ps, most, h0, h1, w, P, An, cn, A, c, h => size_step d (by omega) (fun t most h0 h1 => size_any d (by omega) t most h0 h1) most h0 h1 w P k ns ps An cn A c (VI_iff.1 h).1 (VI_iff.1 h).2 (by have := h.nsz; rw [Vl.nsz] at this; exact this.2) _ rfl (d + 1) rfl
set_option maxHeartbeats 2000000 in
set_option maxRecDepth 100000 in
theorem small_any (w : World) (v : Vl) (P : Nat → Prop) (An : Option Addr) (cn : Nat) (A : Option Addr) (c : Nat) (h : VI w P v An cn A c) :
    Calls Tryd.prog 32 #[vv v An cn A c, .int .i64 500, .int .i64 30] w fun e w' => e = .returned (.bool v.light) ∧ Below w.heap.size w w' := by
  have B0 := Lib.hid (bel1 w (.cells (varr v.hd An v.names.length cn A v.parts.length c) 25))
  have R0 := Lib.hid (RowB.new w 25 (varr v.hd An v.names.length cn A v.parts.length c))
  have rc := R0.out.cell
  have C := Lib.hid (size_any 30 (by omega) v 500 (by omega) (by omega) _ P An cn A c (h.below B0.out))
  obtain ⟨q, hq⟩ : ∃ q, q = sizeF 30 500 v := ⟨_, rfl⟩
  have HL : Hid (v.light = decide (q ≤ 500)) := by unfold Hid Vl.light; rw [hq]
  rw [← hq] at C
  rw [HL.out]
  clear h hq HL
  obtain ⟨k, ns, ps⟩ := v
  simp only [vv, hd_mk, names_mk, parts_mk] at C rc B0 R0 ⊢
  go_enter Tryd.func32, Tryd.ntmps32
  go_wp2_with fail
  refine C.out.mono ?_
  rintro e w1 ⟨rfl, h1⟩
  have HB := Lib.hid (B0.out.trans (h1.mono B0.out.size))
  clear h1 C rc
  go_wp2_with fail
  (first | go_ret | go_ret2)
  exact ⟨rfl, HB.out⟩
set_option maxHeartbeats 2000000 in
set_option maxRecDepth 100000 in
theorem light_any (w : World) (v : Vl) (P : Nat → Prop) (An : Option Addr) (cn : Nat) (A : Option Addr) (c : Nat) (h : VI w P v An cn A c) :
    Calls Tryd.prog 8 #[vv v An cn A c] w fun e w' => e = .returned (.bool v.light) ∧ Below w.heap.size w w' := by
  have B0 := Lib.hid (bel1 w (.cells (varr v.hd An v.names.length cn A v.parts.length c) 25))
  have R0 := Lib.hid (RowB.new w 25 (varr v.hd An v.names.length cn A v.parts.length c))
  have rc := R0.out.cell
  have C := Lib.hid (small_any _ v P An cn A c (h.below B0.out))
  generalize v.light = b at *
  clear h
  obtain ⟨k, ns, ps⟩ := v
  simp only [vv, hd_mk, names_mk, parts_mk] at C rc B0 R0 ⊢
  go_enter Tryd.func8, Tryd.ntmps8
  go_wp2_with fail
  refine C.out.mono ?_
  rintro e w1 ⟨rfl, h1⟩
  have HB := Lib.hid (B0.out.trans (h1.mono B0.out.size))
  clear h1 C rc
  go_wp2_with fail
  (first | go_ret | go_ret2)
  exact ⟨rfl, HB.out⟩
end Vm
end Go.Proofs.YtbjlhdjcdinmhaaDoor
