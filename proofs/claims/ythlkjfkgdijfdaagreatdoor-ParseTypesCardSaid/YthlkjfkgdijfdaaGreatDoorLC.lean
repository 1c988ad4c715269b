/- Contracts: the document's Lex: numbers. -/
import Derived.Test.YthlkjfkgdijfdaaGreatDoorLB
import Derived.IntWalk
namespace Go.Proofs.YthlkjfkgdijfdaaGreatDoor
open Go.RowKit
def numAt (s : ByteArray) (k : Nat) : Nat × Nat × Nat := if numOk ((tl s k).take (wLen (tl s k))) = true then (3, k + wLen (tl s k), 0) else (0, 0, 23)
theorem key_dig {c : UInt8} (hd : digN (c.toNat : Int) = true) (r : List UInt8) : keyL (c :: r) = false := by
  have key : ∀ x ∈ keys, ∀ b ∈ x.head?, digN (b.toNat : Int) = false := by decide
  unfold keyL
  cases h : keys.contains (c :: r) with
  | false => rfl
  | true =>
    have hm : (c :: r) ∈ keys := by simpa using h
    have := key _ hm c (by simp)
    rw [hd] at this; cases this

set_option maxHeartbeats 4000000 in
set_option maxRecDepth 100000 in
theorem one_num (s : ByteArray) (k : Nat) (w : World) (hs : s.size ≤ 100000) (hk : k < s.size) (hl : letN ((s[k]'hk).toNat : Int) = false) (hd : digN ((s[k]'hk).toNat : Int) = true) : Calls Tryz.prog 33 #[.string s, .int .i64 k] w fun e w' => e = tri (numAt s k) ∧ Below w.heap.size w w' := by
  have H0 : Hid ((k + 1) + wLen (tl s (k + 1)) = k + wLen (tl s k)) := by
    unfold Hid; rw [w_go s k hk (by unfold wdN; rw [hd, Bool.or_true])]; omega
  obtain ⟨m, hm⟩ : ∃ m, m = wLen (tl s k) := ⟨_, rfl⟩
  obtain ⟨x, hx⟩ : ∃ x, x = numAt s k := ⟨_, rfl⟩
  rw [← hx]
  unfold numAt at hx
  rw [← hm] at H0 hx
  have HX := Lib.hid hx
  have hm0 : 0 < m := by have := H0.out; omega
  clear hx hm
  go_enter Tryz.func33, Tryz.ntmps33
  go_wp2_with fail
  refine (rletter_any _ _).mono ?_
  rintro e w1 ⟨rfl, rfl⟩
  go_wp2_with fail
  refine (rdigit_any _ _).mono ?_
  rintro e w1 ⟨rfl, rfl⟩
  go_wp2_with fail
  go_loopg [7] (s.size + 1) (fun kx v wr => ∃ j : Nat, v = .int .i64 j ∧ k < j ∧ j ≤ s.size ∧ s.size - j ≤ kx ∧ Hid (j + wLen (tl s j) = k + m) ∧ Hid (w = wr))
  case atStart => exact ⟨k + 1, by go_num, by omega, by omega, by omega, H0.out, rfl⟩
  case round =>
    obtain ⟨j, rfl, hkj, hj, hkx, HA, HB⟩ := hrel
    obtain rfl := HB.out
    by_cases hlt : j < s.size
    · cases h1 : letN ((s[j]'hlt).toNat : Int)
      · cases h2 : digN ((s[j]'hlt).toNat : Int)
        · have HE : Hid (j = k + m) := by
            unfold Hid; rw [← HA.out, w_stop s j hlt (by unfold wdN; rw [h1, h2]; rfl)]; rfl
          go_wp2_with fail
          refine (rletter_any _ _).mono ?_
          rintro e w1 ⟨rfl, rfl⟩
          go_wp2_with fail
          refine (rdigit_any _ _).mono ?_
          rintro e w1 ⟨rfl, rfl⟩
          go_wp2_with fail
          obtain ⟨T, hT⟩ : ∃ T, T = s.extract k j := ⟨_, rfl⟩
          rw [← hT]
          have hTs : T.size ≤ 100000 := by rw [hT, ByteArray.size_extract]; omega
          have hTl : T.data.toList = (tl s k).take m := by rw [hT, show j = k + m from HE.out, ext_tl]
          have hcons : T.data.toList = s[k]'hk :: (T.data.toList).drop 1 := by
            rw [hTl, tl_cons s k hk]
            cases m with
            | zero => exact absurd HE.out (by unfold Hid at HE; omega)
            | succ m => rw [List.take_succ_cons, List.drop_one, List.tail_cons]
          have hkey : keyL T.data.toList = false := by
            rw [hcons]; exact key_dig hd _
          have hnum : numOk T.data.toList = refN 0 T.data.toList := by
            rw [hcons]; exact numOk_ref (by unfold digN at hd; have := of_decide_eq_true hd; omega)
          have HR : Hid (x = if refN 0 T.data.toList = true then (3, j, 0) else (0, 0, 23)) := by
            unfold Hid
            rw [HX.out, ← hnum, hTl, show j = k + m from HE.out]
          obtain ⟨B, hB⟩ : ∃ B, B = refN 0 T.data.toList := ⟨_, rfl⟩
          rw [← hB] at HR
          have HBB := Lib.hid hB
          clear hT hTl hcons hnum hB HX
          refine (rkey_any _ _).mono ?_
          rw [hkey]
          rintro e w2 ⟨rfl, HB2⟩
          have HB3 := Lib.hid HB2
          clear HB2
          go_wp2_with fail
          refine (rletter_any _ _).mono ?_
          rintro e w3 ⟨rfl, rfl⟩
          go_wp2_with fail
          go_loopg [9, 10] (T.size + 1) (fun kx v u wr => ∃ (n : Nat) (i : Nat), v = .int .u64 ((n : Nat) : Int) ∧ u = .int .i64 i ∧ i ≤ T.size ∧ T.size - i ≤ kx ∧ n ≤ 9223372036854775807 ∧ Hid (refN n (T.data.toList.drop i) = B) ∧ Hid (w2 = wr))
          case atStart => exact ⟨0, 0, rfl, rfl, by omega, by omega, by omega, by unfold Hid; rw [List.drop_zero]; exact HBB.out.symm, rfl⟩
          case round =>
            obtain ⟨n, i, rfl, rfl, hi, hkx2, hn, HF, HW⟩ := hrel
            obtain rfl := HW.out
            by_cases hlt2 : i < T.size
            · have hdr : T.data.toList.drop i = T[i]'hlt2 :: T.data.toList.drop (i + 1) := tl_cons T i hlt2
              cases h3 : digN ((T[i]'hlt2).toNat : Int)
              · have HB0 : Hid (B = false) := by
                  have := HF.out
                  rw [hdr, refN, if_neg (by unfold digN at h3; have := of_decide_eq_false h3; omega)] at this
                  exact this.symm
                have HXX : Hid (x = (0, 0, 23)) := by
                  unfold Hid; rw [HR.out, HB0.out]; rfl
                clear hdr
                go_wp2_with fail
                refine (rdigit_any _ _).mono ?_
                rintro e w1 ⟨rfl, rfl⟩
                go_wp2_with fail
                go_ret3
                exact ⟨tri_eq (a := 0) (b := 0) (c := 23) HXX.out, HB3.out⟩
              · obtain ⟨c, hc⟩ : ∃ c, c = (T[i]'hlt2).toNat := ⟨_, rfl⟩
                have hc1 : 48 ≤ c ∧ c ≤ 57 := by rw [hc]; unfold digN at h3; have := of_decide_eq_true h3; omega
                obtain ⟨d, hdd⟩ : ∃ d, d = c - 48 := ⟨_, rfl⟩
                have hF2 := HF.out
                rw [hdr, refN, ← hc, if_pos hc1, ← hdd] at hF2
                obtain ⟨q, hq⟩ : ∃ q, q = (9223372036854775807 - d) / 10 := ⟨_, rfl⟩
                have hd9 : d ≤ 9 := by omega
                have f1 : IntKind.u8.wrap ((c : Int) - 48) = (d : Int) := by rw [IntKind.wrap_u8]; omega
                have f2 : IntKind.u64.wrap (d : Int) = (d : Int) := by rw [IntKind.wrap_u64]; omega
                have f3 : IntKind.u64.wrap (9223372036854775807 - (d : Int)) = 9223372036854775807 - (d : Int) := by rw [IntKind.wrap_u64]; omega
                have f4 : (9223372036854775807 - (d : Int)) / 10 = (q : Int) := by omega
                have f5 : (9223372036854775807 - (d : Int)).tdiv 10 = (q : Int) := by rw [Int.tdiv_eq_ediv_of_nonneg (by omega)]; exact f4
                have f6 : IntKind.u64.wrap (q : Int) = (q : Int) := by rw [IntKind.wrap_u64]; omega
                have HQ := Lib.hid hq
                have HD9 := Lib.hid hdd
                have HF2 := Lib.hid hF2
                have HHC := Lib.hid hc
                clear hdr hF2 hq hdd HF
                go_wp2_with fail
                refine (rdigit_any _ _).mono ?_
                rintro e w1 ⟨rfl, rfl⟩
                rw [← hc]
                go_wp2_with fail
                · rename_i hg
                  have hc := HHC.out
                  have hd' := HD9.out
                  have HXX : Hid (x = (0, 0, 23)) := by
                    have h := HF2.out
                    rw [if_pos (by omega)] at h
                    unfold Hid; rw [HR.out, ← h]; rfl
                  go_ret3
                  exact ⟨tri_eq (a := 0) (b := 0) (c := 23) HXX.out, HB3.out⟩
                · rename_i hg
                  have hc := HHC.out
                  have hd' := HD9.out
                  have hle : n * 10 + d ≤ 9223372036854775807 := by omega
                  have HF3 : Hid (refN (n * 10 + d) (T.data.toList.drop (i + 1)) = B) := by
                    have h := HF2.out
                    rw [if_neg (by omega)] at h
                    exact h
                  go_roundg (T.size - (i + 1))
                  case measure => omega
                  case rel => exact ⟨n * 10 + d, i + 1, by rw [show ((n * 10 + d : Nat) : Int) = (n : Int) * 10 + (((T[i]'hlt2).toNat : Int) - 48) by omega], by go_num, by omega, by omega, hle, HF3.out, rfl⟩
            · obtain rfl : i = T.size := by omega
              have HB0 : Hid (B = true) := by
                have := HF.out
                rw [List.drop_of_length_le (by simp), refN] at this
                exact this.symm
              have HXX : Hid (x = (3, j, 0)) := by
                unfold Hid; rw [HR.out, HB0.out]; rfl
              have hnl2 : ¬ (T.size : Int) < (T.size : Int) := by omega
              go_wp2_with fail
              go_ret3
              exact ⟨tri_eq (a := 3) (b := j) (c := 0) HXX.out, HB3.out⟩
        · have HA2 : Hid ((j + 1) + wLen (tl s (j + 1)) = k + m) := by
            have := HA.out; rw [w_go s j hlt (by unfold wdN; rw [h2, Bool.or_true])] at this; unfold Hid; omega
          go_wp2_with fail
          refine (rletter_any _ _).mono ?_
          rintro e w1 ⟨rfl, rfl⟩
          go_wp2_with fail
          refine (rdigit_any _ _).mono ?_
          rintro e w1 ⟨rfl, rfl⟩
          go_wp2_with fail
          go_roundg (s.size - (j + 1))
          case measure => omega
          case rel => exact ⟨j + 1, by go_num, by omega, by omega, by omega, HA2.out, rfl⟩
      · have HA2 : Hid ((j + 1) + wLen (tl s (j + 1)) = k + m) := by
          have := HA.out; rw [w_go s j hlt (by unfold wdN; rw [h1]; rfl)] at this; unfold Hid; omega
        go_wp2_with fail
        refine (rletter_any _ _).mono ?_
        rintro e w1 ⟨rfl, rfl⟩
        go_wp2_with fail
        go_roundg (s.size - (j + 1))
        case measure => omega
        case rel => exact ⟨j + 1, by go_num, by omega, by omega, by omega, HA2.out, rfl⟩
    · obtain rfl : j = s.size := by omega
      have hnl : ¬ (s.size : Int) < (s.size : Int) := by omega
      have HE : Hid (s.size = k + m) := by
        unfold Hid; rw [← HA.out, w_end]; rfl
      go_wp2_with fail
      obtain ⟨T, hT⟩ : ∃ T, T = s.extract k s.size := ⟨_, rfl⟩
      rw [← hT]
      have hTs : T.size ≤ 100000 := by rw [hT, ByteArray.size_extract]; omega
      have hTl : T.data.toList = (tl s k).take m := by rw [hT, show s.size = k + m from HE.out, ext_tl]
      have hcons : T.data.toList = s[k]'hk :: (T.data.toList).drop 1 := by
        rw [hTl, tl_cons s k hk]
        cases m with
        | zero => exact absurd HE.out (by unfold Hid at HE; omega)
        | succ m => rw [List.take_succ_cons, List.drop_one, List.tail_cons]
      have hkey : keyL T.data.toList = false := by
        rw [hcons]; exact key_dig hd _
      have hnum : numOk T.data.toList = refN 0 T.data.toList := by
        rw [hcons]; exact numOk_ref (by unfold digN at hd; have := of_decide_eq_true hd; omega)
      have HR : Hid (x = if refN 0 T.data.toList = true then (3, s.size, 0) else (0, 0, 23)) := by
        unfold Hid
        rw [HX.out, ← hnum, hTl, show s.size = k + m from HE.out]
      obtain ⟨B, hB⟩ : ∃ B, B = refN 0 T.data.toList := ⟨_, rfl⟩
      rw [← hB] at HR
      have HBB := Lib.hid hB
      clear hT hTl hcons hnum hB HX
      refine (rkey_any _ _).mono ?_
      rw [hkey]
      rintro e w2 ⟨rfl, HB2⟩
      have HB3 := Lib.hid HB2
      clear HB2
      go_wp2_with fail
      refine (rletter_any _ _).mono ?_
      rintro e w3 ⟨rfl, rfl⟩
      go_wp2_with fail
      go_loopg [9, 10] (T.size + 1) (fun kx v u wr => ∃ (n : Nat) (i : Nat), v = .int .u64 ((n : Nat) : Int) ∧ u = .int .i64 i ∧ i ≤ T.size ∧ T.size - i ≤ kx ∧ n ≤ 9223372036854775807 ∧ Hid (refN n (T.data.toList.drop i) = B) ∧ Hid (w2 = wr))
      case atStart => exact ⟨0, 0, rfl, rfl, by omega, by omega, by omega, by unfold Hid; rw [List.drop_zero]; exact HBB.out.symm, rfl⟩
      case round =>
        obtain ⟨n, i, rfl, rfl, hi, hkx2, hn, HF, HW⟩ := hrel
        obtain rfl := HW.out
        by_cases hlt2 : i < T.size
        · have hdr : T.data.toList.drop i = T[i]'hlt2 :: T.data.toList.drop (i + 1) := tl_cons T i hlt2
          cases h3 : digN ((T[i]'hlt2).toNat : Int)
          · have HB0 : Hid (B = false) := by
              have := HF.out
              rw [hdr, refN, if_neg (by unfold digN at h3; have := of_decide_eq_false h3; omega)] at this
              exact this.symm
            have HXX : Hid (x = (0, 0, 23)) := by
              unfold Hid; rw [HR.out, HB0.out]; rfl
            clear hdr
            go_wp2_with fail
            refine (rdigit_any _ _).mono ?_
            rintro e w1 ⟨rfl, rfl⟩
            go_wp2_with fail
            go_ret3
            exact ⟨tri_eq (a := 0) (b := 0) (c := 23) HXX.out, HB3.out⟩
          · obtain ⟨c, hc⟩ : ∃ c, c = (T[i]'hlt2).toNat := ⟨_, rfl⟩
            have hc1 : 48 ≤ c ∧ c ≤ 57 := by rw [hc]; unfold digN at h3; have := of_decide_eq_true h3; omega
            obtain ⟨d, hdd⟩ : ∃ d, d = c - 48 := ⟨_, rfl⟩
            have hF2 := HF.out
            rw [hdr, refN, ← hc, if_pos hc1, ← hdd] at hF2
            obtain ⟨q, hq⟩ : ∃ q, q = (9223372036854775807 - d) / 10 := ⟨_, rfl⟩
            have hd9 : d ≤ 9 := by omega
            have f1 : IntKind.u8.wrap ((c : Int) - 48) = (d : Int) := by rw [IntKind.wrap_u8]; omega
            have f2 : IntKind.u64.wrap (d : Int) = (d : Int) := by rw [IntKind.wrap_u64]; omega
            have f3 : IntKind.u64.wrap (9223372036854775807 - (d : Int)) = 9223372036854775807 - (d : Int) := by rw [IntKind.wrap_u64]; omega
            have f4 : (9223372036854775807 - (d : Int)) / 10 = (q : Int) := by omega
            have f5 : (9223372036854775807 - (d : Int)).tdiv 10 = (q : Int) := by rw [Int.tdiv_eq_ediv_of_nonneg (by omega)]; exact f4
            have f6 : IntKind.u64.wrap (q : Int) = (q : Int) := by rw [IntKind.wrap_u64]; omega
            have HQ := Lib.hid hq
            have HD9 := Lib.hid hdd
            have HF2 := Lib.hid hF2
            have HHC := Lib.hid hc
            clear hdr hF2 hq hdd HF
            go_wp2_with fail
            refine (rdigit_any _ _).mono ?_
            rintro e w1 ⟨rfl, rfl⟩
            rw [← hc]
            go_wp2_with fail
            · rename_i hg
              have hc := HHC.out
              have hd' := HD9.out
              have HXX : Hid (x = (0, 0, 23)) := by
                have h := HF2.out
                rw [if_pos (by omega)] at h
                unfold Hid; rw [HR.out, ← h]; rfl
              go_ret3
              exact ⟨tri_eq (a := 0) (b := 0) (c := 23) HXX.out, HB3.out⟩
            · rename_i hg
              have hc := HHC.out
              have hd' := HD9.out
              have hle : n * 10 + d ≤ 9223372036854775807 := by omega
              have HF3 : Hid (refN (n * 10 + d) (T.data.toList.drop (i + 1)) = B) := by
                have h := HF2.out
                rw [if_neg (by omega)] at h
                exact h
              go_roundg (T.size - (i + 1))
              case measure => omega
              case rel => exact ⟨n * 10 + d, i + 1, by rw [show ((n * 10 + d : Nat) : Int) = (n : Int) * 10 + (((T[i]'hlt2).toNat : Int) - 48) by omega], by go_num, by omega, by omega, hle, HF3.out, rfl⟩
        · obtain rfl : i = T.size := by omega
          have HB0 : Hid (B = true) := by
            have := HF.out
            rw [List.drop_of_length_le (by simp), refN] at this
            exact this.symm
          have HXX : Hid (x = (3, s.size, 0)) := by
            unfold Hid; rw [HR.out, HB0.out]; rfl
          have hnl2 : ¬ (T.size : Int) < (T.size : Int) := by omega
          go_wp2_with fail
          go_ret3
          exact ⟨tri_eq (a := 3) (b := s.size) (c := 0) HXX.out, HB3.out⟩
end Go.Proofs.YthlkjfkgdijfdaaGreatDoor
