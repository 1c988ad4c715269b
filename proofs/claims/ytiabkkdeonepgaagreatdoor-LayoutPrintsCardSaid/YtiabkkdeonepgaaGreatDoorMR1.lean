import Derived.Test.YtiabkkdeonepgaaGreatDoorXA
import Derived.Deep.LoopGhost
import Derived.Lib.UnsafeStr
import Derived.Laws.IdiomStrings
import Derived.Laws.MakeOwn
import Derived.OwnWalk
namespace Go.Proofs.YtiabkkdeonepgaaGreatDoor
open Go.RowKit
theorem app_list (a b : ByteArray) : (a ++ b).data.toList = a.data.toList ++ b.data.toList := by rw [ByteArray.data_append, Array.toList_append]
theorem len_list (a : ByteArray) : a.data.toList.length = a.size := by simp
theorem take_next (s : ByteArray) (k : Nat) (h : k < s.size) : s.data.toList.take (k + 1) = s.data.toList.take k ++ [s[k]] := by
  rw [List.take_succ_eq_append_getElem (by simpa using h)]; rfl
theorem ext_one (s : ByteArray) (k : Nat) (h : k < s.size) : (s.extract k (k + 1)).data.toList = [s[k]] := by
  rw [ByteArray.data_extract, Array.toList_extract, List.extract_eq_take_drop, List.drop_eq_getElem_cons (by simpa using h)]
  simp
  rfl
theorem u8_eq {b : UInt8} {n : Nat} (hn : n < 256) (h : b.toNat = n) : b = UInt8.ofNat n := by
  apply UInt8.toNat_inj.1
  rw [h, UInt8.toNat_ofNat']
  omega
def Wr (s : ByteArray) (k : Nat) (O : ByteArray) : Prop := O.data.toList = 34 :: (s.data.toList.take k).flatMap esc
theorem Wr.next {s O X : ByteArray} {k : Nat} (h : Wr s k O) (hk : k < s.size) (hx : X.data.toList = esc s[k]) : Wr s (k + 1) (O ++ X) := by
  unfold Wr at h ⊢
  rw [app_list, h, hx, take_next s k hk, flat_snoc]
  rfl
theorem Wr.size {s O : ByteArray} {k : Nat} (h : Wr s k O) (hk : k ≤ s.size) : O.size ≤ 2 * k + 1 := by
  have h1 := congrArg List.length h
  have h2 := flat_len (s.data.toList.take k)
  rw [List.length_take, len_list] at h2
  rw [len_list, List.length_cons] at h1
  omega
end Go.Proofs.YtiabkkdeonepgaaGreatDoor
namespace Go.Proofs.YtiabkkdeonepgaaGreatDoor
open Go.RowKit
def Rd (W : List UInt8) (I O : ByteArray) : Prop := um W false = (um I.data.toList false).map (O.data.toList ++ ·)
theorem cons_one (I : ByteArray) (h : 0 < I.size) : I.data.toList = I[0] :: (I.extract 1 I.size).data.toList := by
  have e : (I.extract 1 I.size).data.toList = I.data.toList.drop 1 := by
    rw [ByteArray.data_extract, Array.toList_extract, List.extract_eq_take_drop]
    exact List.take_of_length_le (by simp)
  rw [e]
  have h' : 0 < I.data.toList.length := by simpa using h
  conv => lhs; rw [← List.drop_zero (l := I.data.toList), List.drop_eq_getElem_cons h']
  rfl
theorem cons_two (I : ByteArray) (h : 1 < I.size) : I.data.toList = I[0] :: I[1] :: (I.extract 2 I.size).data.toList := by
  have e : (I.extract 2 I.size).data.toList = I.data.toList.drop 2 := by
    rw [ByteArray.data_extract, Array.toList_extract, List.extract_eq_take_drop]
    exact List.take_of_length_le (by simp)
  rw [e]
  have h' : 0 < I.data.toList.length := by have : 0 < I.size := by omega
                                           simpa using this
  have h'' : 1 < I.data.toList.length := by simpa using h
  conv => lhs; rw [← List.drop_zero (l := I.data.toList), List.drop_eq_getElem_cons h', Nat.zero_add, List.drop_eq_getElem_cons h'']
  rfl
theorem rest_size (I : ByteArray) (k : Nat) : (I.extract k I.size).size = I.size - k := by rw [ByteArray.size_extract]; omega
theorem Rd.low {W : List UInt8} {I O : ByteArray} (h : Rd W I O) (h0 : 0 < I.size) (hb : I[0].toNat < 32 ∨ I[0].toNat = 34) : um W false = none := by
  unfold Rd at h
  rw [h, cons_one I h0, um_low _ (by rw [ne_eq, ← UInt8.toNat_inj]; intro e; rw [e] at hb; revert hb; decide) (by rw [UInt8.lt_iff_toNat_lt, ← UInt8.toNat_inj]; exact hb)]
  rfl
theorem Rd.byte {W : List UInt8} {I O : ByteArray} (h : Rd W I O) (h0 : 0 < I.size) (hb : I[0].toNat ≠ 92) (hc : ¬ (I[0].toNat < 32 ∨ I[0].toNat = 34)) : Rd W (I.extract 1 I.size) (O ++ I.extract 0 1) := by
  unfold Rd at h ⊢
  have e : (I.extract 0 1).data.toList = [I[0]] := ext_one I 0 h0
  rw [app_list, e]
  refine um_pre (b := I[0]) (sl := false) ?_ (um_byte _ (by rw [ne_eq, ← UInt8.toNat_inj]; exact hb) (by rw [UInt8.lt_iff_toNat_lt, ← UInt8.toNat_inj]; exact hc))
  rw [h, ← cons_one I h0]
theorem Rd.short {W : List UInt8} {I O : ByteArray} (h : Rd W I O) (h0 : I.size = 1) (hb : I[0].toNat = 92) : um W false = none := by
  unfold Rd at h
  have e : (I.extract 1 I.size).data.toList = [] := List.eq_nil_of_length_eq_zero (by rw [len_list, rest_size]; omega)
  rw [h, cons_one I (by omega), e, u8_eq (by decide) hb]
  rfl
theorem Rd.sign {W : List UInt8} {I O : ByteArray} (h : Rd W I O) (h0 : 1 < I.size) (hb : I[0].toNat = 92) (hs : mb I[1] = true) {X : ByteArray} (hx : X.data.toList = [mn I[1]]) : Rd W (I.extract 2 I.size) (O ++ X) := by
  unfold Rd at h ⊢
  rw [app_list, hx]
  refine um_pre (b := I[1]) (sl := true) ?_ (um_sign _ hs)
  have e : um I.data.toList false = um (I[1] :: (I.extract 2 I.size).data.toList) true := by
    rw [cons_two I h0, u8_eq (by decide) hb]
    exact um_slash _
  rw [h, e]
theorem Rd.nosign {W : List UInt8} {I O : ByteArray} (h : Rd W I O) (h0 : 1 < I.size) (hb : I[0].toNat = 92) (hs : mb I[1] = false) : um W false = none := by
  unfold Rd at h
  have e : um I.data.toList false = um (I[1] :: (I.extract 2 I.size).data.toList) true := by
    rw [cons_two I h0, u8_eq (by decide) hb]
    exact um_slash _
  rw [h, e, um_nosign _ hs]
  rfl
theorem Rd.done {W : List UInt8} {I O : ByteArray} (h : Rd W I O) (h0 : I.size = 0) : um W false = some O.data.toList := by
  unfold Rd at h
  have e : I.data.toList = [] := List.eq_nil_of_length_eq_zero (by rw [len_list]; exact h0)
  rw [h, e]
  simp [um_end]
def uq (l : List UInt8) : Ending := match unq l with
  | some o => .returned (.tuple #[.string ⟨o.toArray⟩, .int .i64 0])
  | none => .returned (.tuple #[.string ⟨#[]⟩, .int .i64 22])
theorem uq_none {l : List UInt8} (h : unq l = none) : Ending.returned (.tuple #[.string ⟨#[]⟩, .int .i64 22]) = uq l := by unfold uq; rw [h]
theorem uq_some {l : List UInt8} {O : ByteArray} (h : unq l = some O.data.toList) : Ending.returned (.tuple #[.string O, .int .i64 0]) = uq l := by
  unfold uq; rw [h]
def mid (s : ByteArray) : ByteArray := s.extract 1 (s.size - 1)
theorem mid_size (s : ByteArray) : (mid s).size = s.size - 2 := by unfold mid; rw [ByteArray.size_extract]; omega
theorem unq_mid (s : ByteArray) (h : 2 ≤ s.size) (h0 : s[0].toNat = 34) (h1 : s[s.size - 1].toNat = 34) : unq s.data.toList = um (mid s).data.toList false := by
  unfold unq
  have e : (mid s).data.toList = (s.data.toList.drop 1).take (s.data.toList.length - 2) := by
    unfold mid
    rw [ByteArray.data_extract, Array.toList_extract, List.extract_eq_take_drop, len_list]
    rfl
  have g0 : s.data.toList.getD 0 0 = 34 := by
    have := gb_of s 0 (by omega)
    unfold gb at this
    rw [← UInt8.toNat_inj, ← this, h0]; rfl
  have g1 : s.data.toList.getD (s.data.toList.length - 1) 0 = 34 := by
    rw [len_list]
    have := gb_of s (s.size - 1) (by omega)
    unfold gb at this
    rw [← UInt8.toNat_inj, ← this, h1]; rfl
  rw [if_neg (by rw [g0, g1, len_list]; simp; omega), e]
theorem unq_bad (s : ByteArray) (h : s.size < 2 ∨ gb s 0 ≠ 34 ∨ gb s (s.size - 1) ≠ 34) : unq s.data.toList = none := by
  unfold unq
  rw [if_pos]
  rw [len_list]
  unfold gb at h
  rcases h with h | h | h
  · exact .inl h
  · exact .inr (.inl fun e => h (by rw [e]; rfl))
  · exact .inr (.inr fun e => h (by rw [e]; rfl))
set_option maxHeartbeats 2000000 in
theorem runquote_bad (s : ByteArray) (w : World) (hs : s.size ≤ 100000) (h : s.size < 2 ∨ gb s 0 ≠ 34 ∨ gb s (s.size - 1) ≠ 34) :
    Calls Tryz.prog 36 #[.string s] w fun e w' => e = uq s.data.toList ∧ w = w' := by
  have HU := Lib.hid (unq_bad s h)
  by_cases h1 : s.size < 2
  · have h1z : (s.size : Int) < 2 := by omega
    clear h
    go_enter Tryz.func36, Tryz.ntmps36
    go_wp2_with fail
    go_ret2
    exact ⟨uq_none HU.out, rfl⟩
  have h1z : ¬ (s.size : Int) < 2 := by omega
  have g0 := gb_of s 0 (by omega)
  have g1 := gb_of s (s.size - 1) (by omega)
  by_cases h2 : gb s 0 = 34
  · have q0 : (((s[0]'(by omega)).toNat : Int) != 34) = false := by simp; omega
    have q1 : (((s[s.size - 1]'(by omega)).toNat : Int) != 34) = true := by simp; omega
    have hx : s.size - 1 < s.size := by omega
    clear h g0 g1 h2
    go_enter Tryz.func36, Tryz.ntmps36
    go_wp2_with fail
    go_ret2
    exact ⟨uq_none HU.out, rfl⟩
  · have q0 : (((s[0]'(by omega)).toNat : Int) != 34) = true := by simp; omega
    have hx : 0 < s.size := by omega
    clear h g0 g1 h2
    go_enter Tryz.func36, Tryz.ntmps36
    go_wp2_with fail
    go_ret2
    exact ⟨uq_none HU.out, rfl⟩
set_option maxHeartbeats 4000000 in
theorem runquote_good (s : ByteArray) (w : World) (hs : s.size ≤ 100000) (h2 : 2 ≤ s.size) (h0 : gb s 0 = 34) (h1 : gb s (s.size - 1) = 34) :
    Calls Tryz.prog 36 #[.string s] w fun e w' => e = uq s.data.toList ∧ w = w' := by
  have g0 := gb_of s 0 (by omega)
  have g1 := gb_of s (s.size - 1) (by omega)
  have q0 : (((s[0]'(by omega)).toNat : Int) != 34) = false := by simp; omega
  have q1 : (((s[s.size - 1]'(by omega)).toNat : Int) != 34) = false := by simp; omega
  have hx : s.size - 1 < s.size := by omega
  have HU := Lib.hid (unq_mid s h2 (by omega) (by omega))
  have h1z : ¬ (s.size : Int) < 2 := by omega
  clear h0 h1 g0 g1
  have hms := mid_size s
  have HS : Rd (mid s).data.toList (mid s) ⟨#[]⟩ := by unfold Rd; simp
  have HM := Lib.hid hms
  clear hms
  go_enter Tryz.func36, Tryz.ntmps36
  go_wp2_with fail
  go_loopg [5, 6] s.size (fun kx o a wr => ∃ (I O : ByteArray), o = .string O ∧ a = .string I ∧ I.size ≤ kx ∧ I.size + O.size ≤ 100000 ∧ Hid (Rd (mid s).data.toList I O) ∧ Hid (w = wr))
  case atStart => exact ⟨mid s, _, rfl, rfl, by rw [HM.out]; omega, by rw [HM.out]; show _ + 0 ≤ _; omega, HS, rfl⟩
  case round =>
    clear HM HS q0 q1
    obtain ⟨I, O, rfl, rfl, hkx, hz, HR, HW⟩ := hrel
    obtain rfl := HW.out
    by_cases hlt : 0 < I.size
    · have hlz : (I.size : Int) > 0 := by omega
      have hr1 := rest_size I 1
      have hr2 := rest_size I 2
      by_cases h32 : (I[0]'hlt).toNat < 32
      · have c1 : ((I[0]'hlt).toNat : Int) < 32 := by omega
        have HF := Lib.hid (HR.out.low hlt (.inl h32))
        clear h32 hr1 hr2
        go_wp2_with fail
        go_ret2
        exact ⟨uq_none (HU.out.trans HF.out), rfl⟩
      have c1 : ¬ ((I[0]'hlt).toNat : Int) < 32 := by omega
      by_cases h34 : (I[0]'hlt).toNat = 34
      · have c2 : (((I[0]'hlt).toNat : Int) == 34) = true := by simp; omega
        have HF := Lib.hid (HR.out.low hlt (.inr h34))
        clear h32 h34 hr1 hr2
        go_wp2_with fail
        go_ret2
        exact ⟨uq_none (HU.out.trans HF.out), rfl⟩
      have c2 : (((I[0]'hlt).toNat : Int) == 34) = false := by simp; omega
      by_cases h92 : (I[0]'hlt).toNat = 92
      · have c3 : (((I[0]'hlt).toNat : Int) != 92) = false := by simp; omega
        by_cases h1 : 1 < I.size
        · have h1z : ¬ (I.size : Int) < 2 := by omega
          by_cases k110 : (I[1]'h1).toNat = 110
          · have d110 : (((I[1]'h1).toNat : Int) == 110) = true := by simp; omega
            have e1 := u8_eq (by decide) k110
            have HN := Lib.hid (HR.out.sign (X := ⟨#[10]⟩) h1 h92 (by rw [e1]; rfl) (by rw [e1]; rfl))
            have HI := Lib.hid hr2
            clear h32 h34 h92 k110 e1 hr1 hr2 
            go_wp2_with fail
            go_roundg (I.size - 2)
            case measure => omega
            case rel => exact ⟨_, _, rfl, rfl, by rw [HI.out]; exact Nat.le_refl _, by rw [HI.out, ByteArray.size_append]; show _ + (_ + 1) ≤ _; omega, HN.out, rfl⟩
          have d110 : (((I[1]'h1).toNat : Int) == 110) = false := by simp; omega
          by_cases k116 : (I[1]'h1).toNat = 116
          · have d116 : (((I[1]'h1).toNat : Int) == 116) = true := by simp; omega
            have e1 := u8_eq (by decide) k116
            have HN := Lib.hid (HR.out.sign (X := ⟨#[9]⟩) h1 h92 (by rw [e1]; rfl) (by rw [e1]; rfl))
            have HI := Lib.hid hr2
            clear h32 h34 h92 k116 e1 hr1 hr2 k110
            go_wp2_with fail
            go_roundg (I.size - 2)
            case measure => omega
            case rel => exact ⟨_, _, rfl, rfl, by rw [HI.out]; exact Nat.le_refl _, by rw [HI.out, ByteArray.size_append]; show _ + (_ + 1) ≤ _; omega, HN.out, rfl⟩
          have d116 : (((I[1]'h1).toNat : Int) == 116) = false := by simp; omega
          by_cases k34 : (I[1]'h1).toNat = 34
          · have d34 : (((I[1]'h1).toNat : Int) == 34) = true := by simp; omega
            have e1 := u8_eq (by decide) k34
            have HN := Lib.hid (HR.out.sign (X := ⟨#[34]⟩) h1 h92 (by rw [e1]; rfl) (by rw [e1]; rfl))
            have HI := Lib.hid hr2
            clear h32 h34 h92 k34 e1 hr1 hr2 k110 k116
            go_wp2_with fail
            go_roundg (I.size - 2)
            case measure => omega
            case rel => exact ⟨_, _, rfl, rfl, by rw [HI.out]; exact Nat.le_refl _, by rw [HI.out, ByteArray.size_append]; show _ + (_ + 1) ≤ _; omega, HN.out, rfl⟩
          have d34 : (((I[1]'h1).toNat : Int) == 34) = false := by simp; omega
          by_cases k92 : (I[1]'h1).toNat = 92
          · have d92 : (((I[1]'h1).toNat : Int) == 92) = true := by simp; omega
            have e1 := u8_eq (by decide) k92
            have HN := Lib.hid (HR.out.sign (X := ⟨#[92]⟩) h1 h92 (by rw [e1]; rfl) (by rw [e1]; rfl))
            have HI := Lib.hid hr2
            clear h32 h34 h92 k92 e1 hr1 hr2 k110 k116 k34
            go_wp2_with fail
            go_roundg (I.size - 2)
            case measure => omega
            case rel => exact ⟨_, _, rfl, rfl, by rw [HI.out]; exact Nat.le_refl _, by rw [HI.out, ByteArray.size_append]; show _ + (_ + 1) ≤ _; omega, HN.out, rfl⟩
          have d92 : (((I[1]'h1).toNat : Int) == 92) = false := by simp; omega
          have hsb : mb (I[1]'h1) = false := by
            simp only [mb, Bool.or_eq_false_iff, beq_eq_false_iff_ne, ne_eq, ← UInt8.toNat_inj]
            exact ⟨⟨⟨k110, k116⟩, k34⟩, k92⟩
          have HF := Lib.hid (HR.out.nosign h1 h92 hsb)
          clear h32 h34 h92 hr1 hr2 k110 k116 k34 k92 hsb
          go_wp2_with fail
          go_ret2
          exact ⟨uq_none (HU.out.trans HF.out), rfl⟩
        · have h1z : (I.size : Int) < 2 := by omega
          have HF := Lib.hid (HR.out.short (by omega) h92)
          clear h32 h34 h92 hr1 hr2
          go_wp2_with fail
          go_ret2
          exact ⟨uq_none (HU.out.trans HF.out), rfl⟩
      · have c3 : (((I[0]'hlt).toNat : Int) != 92) = true := by simp; omega
        have HN := Lib.hid (HR.out.byte hlt h92 (by omega))
        have HI := Lib.hid hr1
        have he : (I.extract 0 1).size = 1 := by rw [ByteArray.size_extract]; omega
        have HE := Lib.hid he
        clear h32 h34 h92 hr1 hr2 he
        go_wp2_with fail
        go_roundg (I.size - 1)
        case measure => omega
        case rel => exact ⟨_, _, rfl, rfl, by rw [HI.out]; exact Nat.le_refl _, by rw [HI.out, ByteArray.size_append, HE.out]; omega, HN.out, rfl⟩
    · have hlz : ¬ (I.size : Int) > 0 := by omega
      have HF := Lib.hid (HR.out.done (by omega))
      go_wp2_with fail
      go_ret2
      exact ⟨uq_some (HU.out.trans HF.out), rfl⟩
theorem runquote_any (s : ByteArray) (w : World) (hs : s.size ≤ 100000) :
    Calls Tryz.prog 36 #[.string s] w fun e w' => e = uq s.data.toList ∧ w = w' := by
  by_cases h : s.size < 2 ∨ gb s 0 ≠ 34 ∨ gb s (s.size - 1) ≠ 34
  · exact runquote_bad s w hs h
  · exact runquote_good s w hs (by omega) (by omega) (by omega)
end Go.Proofs.YtiabkkdeonepgaaGreatDoor
namespace Go.Proofs.YtiabkkdeonepgaaGreatDoor
open Go.RowKit
theorem info5 : (Tryz.prog.info? 5).map (fun i => (i.zero, i.size, i.bytes)) = some (some (.int .u8 0), 1, 1) := by kernel_rfl
theorem conv_own {w : World} {base n : Nat} {v : Value} {l : List UInt8} (h : w.ownsRow base 5 1 v n (Lib.byteCells l)) :
    (convert 47 9 v).run Tryz.prog w = .ok (.string ⟨l.toArray⟩) w := by
  have hl : l.length = n := by have := h.1; simpa [Lib.byteCells] using this
  rcases h.2 with ⟨rfl, rfl⟩ | ⟨g, cap, cur, rfl, hb, hh, hnc, hcm, hsz, htk⟩
  · obtain rfl : l = [] := List.eq_nil_of_length_eq_zero hl
    rw [run_convert_bytes_string w 47 9 5 none 0 0 Tryz.underlying47 Tryz.underlying5 Tryz.underlying9]
    rfl
  · subst hl
    exact run_convert_bytes_back w 47 9 5 ⟨g, 0, none⟩ cap l Tryz.underlying47 Tryz.underlying5 Tryz.underlying9 fun j hj => h.cells (g := g) rfl j _ (by simp [Lib.byteCells, hj])
theorem cells_one (w : World) (a : Value) (j : Nat) (u : Value) (hj : [a][j]? = some u) : (w.alloc (.cells #[a] 5)).cell? ((⟨w.heap.size, 0, none⟩ : Addr).add j) = some u := by
  match j, hj with
  | 0, hj => simp at hj; subst hj; simp [Addr.add]
  | (j + 1), hj => simp at hj
theorem one1 (a : Int) : ∀ u ∈ [Value.int .u8 a], u.oneCell' = true := by intro u hu; simp at hu; subst hu; rfl
set_option maxHeartbeats 400000 in
theorem mean_yes (b : UInt8) (w : World) (h : mb b = true) : Calls Tryz.prog 130 #[.int .u8 b.toNat] w fun e w' => e = .returned (.tuple #[.int .u8 (mn b).toNat, .bool true]) ∧ w = w' := by
  simp only [mb, Bool.or_eq_true, beq_iff_eq] at h
  rcases h with ((rfl | rfl) | rfl) | rfl
  all_goals
    go_enter Tryz.func130, Tryz.ntmps130
    go_wp2
    go_ret2
    exact ⟨rfl, rfl⟩
set_option maxHeartbeats 400000 in
theorem mean_no (b : UInt8) (w : World) (h : mb b = false) : Calls Tryz.prog 130 #[.int .u8 b.toNat] w fun e w' => e = .returned (.tuple #[.int .u8 0, .bool false]) ∧ w = w' := by
  simp only [mb, Bool.or_eq_false_iff, beq_eq_false_iff_ne, ne_eq, ← UInt8.toNat_inj] at h
  obtain ⟨⟨⟨h1, h2⟩, h3⟩, h4⟩ := h
  have q1 : ((b.toNat : Int) == 110) = false := by simp; exact fun e => h1 (by rw [show b.toNat = 110 by omega]; rfl)
  have q2 : ((b.toNat : Int) == 116) = false := by simp; exact fun e => h2 (by rw [show b.toNat = 116 by omega]; rfl)
  have q3 : ((b.toNat : Int) == 34) = false := by simp; exact fun e => h3 (by rw [show b.toNat = 34 by omega]; rfl)
  have q4 : ((b.toNat : Int) == 92) = false := by simp; exact fun e => h4 (by rw [show b.toNat = 92 by omega]; rfl)
  clear h1 h2 h3 h4
  go_enter Tryz.func130, Tryz.ntmps130
  go_wp2
  go_ret2
  exact ⟨rfl, rfl⟩
end Go.Proofs.YtiabkkdeonepgaaGreatDoor
namespace Go.Proofs.YtiabkkdeonepgaaGreatDoor
open Go.RowKit
def Rp (W : List UInt8) (k : Nat) (sl : Bool) (O : List UInt8) : Prop := um W false = (um (W.drop k) sl).map (O ++ ·)
theorem drop_cons (T : ByteArray) (k : Nat) (h : k < T.size) : T.data.toList.drop k = T[k] :: T.data.toList.drop (k + 1) := by
  rw [List.drop_eq_getElem_cons (by simpa using h)]; rfl
theorem Rp.first (W : List UInt8) : Rp W 0 false [] := by unfold Rp; simp
theorem Rp.mean {T : ByteArray} {k : Nat} {O : List UInt8} (h : Rp T.data.toList k true O) (hk : k < T.size) (hm : mb T[k] = true) : Rp T.data.toList (k + 1) false (O ++ [mn T[k]]) := by
  unfold Rp at h ⊢
  rw [drop_cons T k hk] at h
  exact um_pre h (um_sign _ hm)
theorem Rp.nomean {T : ByteArray} {k : Nat} {O : List UInt8} (h : Rp T.data.toList k true O) (hk : k < T.size) (hm : mb T[k] = false) : um T.data.toList false = none := by
  unfold Rp at h
  rw [h, drop_cons T k hk, um_nosign _ hm]
  rfl
theorem Rp.slash {T : ByteArray} {k : Nat} {O : List UInt8} (h : Rp T.data.toList k false O) (hk : k < T.size) (hb : T[k].toNat = 92) : Rp T.data.toList (k + 1) true O := by
  unfold Rp at h ⊢
  rw [h, drop_cons T k hk, u8_eq (by decide) hb]
  rw [show UInt8.ofNat 92 = 92 from rfl, um_slash]
theorem Rp.low {T : ByteArray} {k : Nat} {O : List UInt8} (h : Rp T.data.toList k false O) (hk : k < T.size) (hb : T[k].toNat < 32 ∨ T[k].toNat = 34) : um T.data.toList false = none := by
  unfold Rp at h
  rw [h, drop_cons T k hk, um_low _ (by rw [ne_eq, ← UInt8.toNat_inj]; intro e; rw [e] at hb; revert hb; decide) (by rw [UInt8.lt_iff_toNat_lt, ← UInt8.toNat_inj]; exact hb)]
  rfl
theorem Rp.byte {T : ByteArray} {k : Nat} {O : List UInt8} (h : Rp T.data.toList k false O) (hk : k < T.size) (hb : T[k].toNat ≠ 92) (hc : ¬ (T[k].toNat < 32 ∨ T[k].toNat = 34)) : Rp T.data.toList (k + 1) false (O ++ [T[k]]) := by
  unfold Rp at h ⊢
  rw [drop_cons T k hk] at h
  exact um_pre h (um_byte _ (by rw [ne_eq, ← UInt8.toNat_inj]; exact hb) (by rw [UInt8.lt_iff_toNat_lt, ← UInt8.toNat_inj]; exact hc))
theorem Rp.done {T : ByteArray} {O : List UInt8} {sl : Bool} (h : Rp T.data.toList T.size sl O) : um T.data.toList false = if sl = true then none else some O := by
  unfold Rp at h
  rw [List.drop_of_length_le (by rw [len_list]; exact Nat.le_refl _), um_end] at h
  rw [h]
  cases sl <;> simp
set_option maxHeartbeats 2000000 in
theorem unquote_bad (s : ByteArray) (w : World) (hs : s.size ≤ 100000) (h : s.size < 2 ∨ gb s 0 ≠ 34 ∨ gb s (s.size - 1) ≠ 34) :
    Calls Tryz.prog 113 #[.string s] w fun e w' => e = uq s.data.toList ∧ Below w.heap.size w w' := by
  have HU := Lib.hid (unq_bad s h)
  by_cases h1 : s.size < 2
  · have h1z : (s.size : Int) - 1 < 1 := by omega
    clear h
    go_enter Tryz.func113, Tryz.ntmps113
    go_wp2_with fail
    go_ret2
    exact ⟨uq_none HU.out, Below.refl _ _⟩
  have h1z : ¬ (s.size : Int) - 1 < 1 := by omega
  have g0 := gb_of s 0 (by omega)
  have g1 := gb_of s (s.size - 1) (by omega)
  by_cases h2 : gb s 0 = 34
  · have q0 : (((s[0]'(by omega)).toNat : Int) != 34) = false := by simp; omega
    have q1 : (((s[s.size - 1]'(by omega)).toNat : Int) != 34) = true := by simp; omega
    have hx : s.size - 1 < s.size := by omega
    clear h g0 g1 h2
    go_enter Tryz.func113, Tryz.ntmps113
    go_wp2_with fail
    go_ret2
    exact ⟨uq_none HU.out, Below.refl _ _⟩
  · have q0 : (((s[0]'(by omega)).toNat : Int) != 34) = true := by simp; omega
    have hx : 0 < s.size := by omega
    clear h g0 g1 h2
    go_enter Tryz.func113, Tryz.ntmps113
    go_wp2_with fail
    go_ret2
    exact ⟨uq_none HU.out, Below.refl _ _⟩
set_option maxHeartbeats 4000000 in
set_option maxRecDepth 100000 in
theorem unquote_good (s : ByteArray) (w : World) (hs : s.size ≤ 100000) (h2 : 2 ≤ s.size) (h0 : gb s 0 = 34) (h1 : gb s (s.size - 1) = 34) :
    Calls Tryz.prog 113 #[.string s] w fun e w' => e = uq s.data.toList ∧ Below w.heap.size w w' := by
  obtain ⟨i0, hi, hz0, hz1, hz2⟩ := info_parts info5
  have g0 := gb_of s 0 (by omega)
  have g1 := gb_of s (s.size - 1) (by omega)
  have q0 : (((s[0]'(by omega)).toNat : Int) != 34) = false := by simp; omega
  have q1 : (((s[s.size - 1]'(by omega)).toNat : Int) != 34) = false := by simp; omega
  have hx : s.size - 1 < s.size := by omega
  have HU := Lib.hid (unq_mid s h2 (by omega) (by omega))
  have h1z : ¬ (s.size : Int) - 1 < 1 := by omega
  clear h0 h1 g0 g1
  have hms := mid_size s
  have HM := Lib.hid hms
  clear hms
  go_enter Tryz.func113, Tryz.ntmps113
  go_wp2_with (at_make; refine wpList_make_own _ rfl _ _ 47 rfl w.heap.size 5 i0 (.int .u8 0) 1 Tryz.underlying47 hi hz0 hz1 .i64 .i64 _ (s.size - 1 - 1) rfl rfl rfl (by rw [hz2]; omega) (by unfold maxLen; omega) (Nat.le_refl _) ?_; intro w0 hown0 hgrow0)
  have hb0 : Below w.heap.size w w0 := (Below.refl _ _).grown hgrow0 (Nat.le_refl _) (fun j hj => by cases hj)
  obtain ⟨T, hT⟩ : ∃ T, s.extract 1 (s.size - 1) = T := ⟨_, rfl⟩
  have hmT : mid s = T := hT
  rw [hmT] at HM HU
  have hTs : T.size ≤ 100000 := by have := HM.out; omega
  have hsz : s.size - 1 - 1 = T.size := by have := HM.out; omega
  rw [hT, hsz]
  rw [hsz] at hown0
  clear q0 q1 hgrow0 hT hmT hsz HM
  go_wp2_with fail
  go_loopg [6, 7, 36] T.size (fun kx v b a wr => ∃ (k n : Nat) (sl : Bool) (O : List UInt8), b = .bool sl ∧ a = .int .i64 k ∧ k ≤ T.size ∧ T.size - k ≤ kx ∧ n ≤ k ∧ Hid (Rp T.data.toList k sl O) ∧ wr.ownsRow w.heap.size 5 1 v n (Lib.byteCells O) ∧ Below w.heap.size w wr)
  case atStart => exact ⟨0, 0, false, [], rfl, rfl, by omega, by omega, by omega, Rp.first _, hown0, hb0⟩
  case round =>
    clear hown0 hb0
    obtain ⟨k, n, sl, O, rfl, rfl, hk, hkx, hn, HR, hown, hnx⟩ := hrel
    have hbsz := hnx.size
    by_cases hlt : k < T.size
    · have hlz : (k : Int) < (T.size : Int) := by omega
      cases sl
      · by_cases h92 : (T[k]'hlt).toNat = 92
        · have c1 : (((T[k]'hlt).toNat : Int) == 92) = true := by simp; omega
          have HN := Lib.hid (HR.out.slash hlt h92)
          clear h92
          go_wp2
          go_roundg (T.size - (k + 1))
          case measure => omega
          case rel => exact ⟨k + 1, n, true, _, rfl, by go_num, by omega, by omega, by omega, HN.out, hown, hnx⟩
        have c1 : (((T[k]'hlt).toNat : Int) == 92) = false := by simp; omega
        by_cases h32 : (T[k]'hlt).toNat < 32
        · have c2 : ((T[k]'hlt).toNat : Int) < 32 := by omega
          have HF := Lib.hid (HR.out.low hlt (.inl h32))
          clear h92 h32
          go_wp2
          go_ret2
          exact ⟨uq_none (HU.out.trans HF.out), hnx⟩
        have c2 : ¬ ((T[k]'hlt).toNat : Int) < 32 := by omega
        by_cases h34 : (T[k]'hlt).toNat = 34
        · have c3 : (((T[k]'hlt).toNat : Int) == 34) = true := by simp; omega
          have HF := Lib.hid (HR.out.low hlt (.inr h34))
          clear h92 h32 h34
          go_wp2
          go_ret2
          exact ⟨uq_none (HU.out.trans HF.out), hnx⟩
        have c3 : (((T[k]'hlt).toNat : Int) == 34) = false := by simp; omega
        have HN := Lib.hid (HR.out.byte hlt h92 (by omega))
        clear h92 h32 h34
        have b3 : n + 1 ≤ maxLen := by unfold maxLen; omega
        have b4 : (n + 1) * 1 ≤ 140737488355328 := by omega
        have b5 : w.heap.size ≤ (wr.alloc (.cells #[.int .u8 (T[k]'hlt).toNat] 5)).heap.size := by simp; omega
        go_wp2_with (at_builtin; refine wpList_append_own _ rfl (.tmp 42) (.tmp 44) 47 rfl w.heap.size 5 i0 (.int .u8 0) 1 1 Tryz.underlying47 hi hz0 hz1 hz2 rfl (by decide) _ _ _ rfl (hown.alloc _) ⟨wr.heap.size, 0, none⟩ 1 1 [.int .u8 (T[k]'hlt).toNat] rfl rfl (cells_one _ _) (one1 _) b3 b4 b5 ?_)
        intro v' w1 hown' hgrow _
        have R2 := (hnx.alloc hbsz (.cells #[.int .u8 (T[k]'hlt).toNat] 5)).grown hgrow (by simp; omega) (fun j hj => (hown.lt j hj).1)
        have R1 : w1.ownsRow w.heap.size 5 1 v' (n + 1) (Lib.byteCells (O ++ [T[k]'hlt])) := by rw [Lib.byteCells_append]; exact hown'
        clear hown' hgrow hown hnx b3 b4 b5
        go_wp2
        go_roundg (T.size - (k + 1))
        case measure => omega
        case rel => exact ⟨k + 1, n + 1, false, _, rfl, by go_num, by omega, by omega, by omega, HN.out, R1, R2⟩
      · cases hm : mb (T[k]'hlt)
        · have HF := Lib.hid (HR.out.nomean hlt hm)
          have C := Lib.hid (mean_no (T[k]'hlt) wr hm)
          clear hm
          go_wp2_with fail
          refine C.out.mono ?_
          rintro e w1 ⟨rfl, rfl⟩
          go_wp2
          go_ret2
          exact ⟨uq_none (HU.out.trans HF.out), hnx⟩
        · have HN := Lib.hid (HR.out.mean hlt hm)
          have C := Lib.hid (mean_yes (T[k]'hlt) wr hm)
          clear hm
          go_wp2_with fail
          refine C.out.mono ?_
          rintro e w1 ⟨rfl, rfl⟩
          have b3 : n + 1 ≤ maxLen := by unfold maxLen; omega
          have b4 : (n + 1) * 1 ≤ 140737488355328 := by omega
          have b5 : w.heap.size ≤ (wr.alloc (.cells #[.int .u8 (mn (T[k]'hlt)).toNat] 5)).heap.size := by simp; omega
          go_wp2_with (at_builtin; refine wpList_append_own _ rfl (.tmp 55) (.tmp 57) 47 rfl w.heap.size 5 i0 (.int .u8 0) 1 1 Tryz.underlying47 hi hz0 hz1 hz2 rfl (by decide) _ _ _ rfl (hown.alloc _) ⟨wr.heap.size, 0, none⟩ 1 1 [.int .u8 (mn (T[k]'hlt)).toNat] rfl rfl (cells_one _ _) (one1 _) b3 b4 b5 ?_)
          intro v' w1 hown' hgrow _
          have R2 := (hnx.alloc hbsz (.cells #[.int .u8 (mn (T[k]'hlt)).toNat] 5)).grown hgrow (by simp; omega) (fun j hj => (hown.lt j hj).1)
          have R1 : w1.ownsRow w.heap.size 5 1 v' (n + 1) (Lib.byteCells (O ++ [mn (T[k]'hlt)])) := by rw [Lib.byteCells_append]; exact hown'
          clear hown' hgrow hown hnx b3 b4 b5
          go_wp2
          go_roundg (T.size - (k + 1))
          case measure => omega
          case rel => exact ⟨k + 1, n + 1, false, _, rfl, by go_num, by omega, by omega, by omega, HN.out, R1, R2⟩
    · obtain rfl : k = T.size := by omega
      have hlz : ¬ (T.size : Int) < (T.size : Int) := by omega
      have HF := Lib.hid HR.out.done
      clear hlt
      cases sl
      · have hcv := conv_own hown
        clear hown
        go_wp2
        go_ret2
        exact ⟨uq_some (O := ⟨O.toArray⟩) (HU.out.trans HF.out), hnx⟩
      · clear hown
        go_wp2
        go_ret2
        exact ⟨uq_none (HU.out.trans HF.out), hnx⟩
theorem unquote_any (s : ByteArray) (w : World) (hs : s.size ≤ 100000) :
    Calls Tryz.prog 113 #[.string s] w fun e w' => e = uq s.data.toList ∧ Below w.heap.size w w' := by
  by_cases h : s.size < 2 ∨ gb s 0 ≠ 34 ∨ gb s (s.size - 1) ≠ 34
  · exact unquote_bad s w hs h
  · exact unquote_good s w hs (by omega) (by omega) (by omega)
end Go.Proofs.YtiabkkdeonepgaaGreatDoor
