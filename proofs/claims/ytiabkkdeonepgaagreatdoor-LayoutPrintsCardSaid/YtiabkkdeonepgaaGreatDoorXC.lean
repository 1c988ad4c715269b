import Derived.Test.YtiabkkdeonepgaaGreatDoorXA
import Derived.Test.YtiabkkdeonepgaaGreatDoorMR1
import Derived.Test.YtiabkkdeonepgaaGreatDoorShB
import Derived.WideLaws
import Derived.Lib.ConvBytes
import Derived.Test.YtiabkkdeonepgaaGreatDoorXB
import Derived.IntWalk
import Derived.StillTailTactics
import Derived.BigRegion
import Derived.RegionTactic
import Derived.ChangeAlike
import Derived.Test.YtiabkkdeonepgaaGreatDoorAW
import Derived.Outline
namespace Go.Proofs.YtiabkkdeonepgaaGreatDoor
open Go.RowKit
set_option maxHeartbeats 1000000 in
theorem letter_any (n : Int) (w : World) : Calls Tryz.prog 74 #[.int .u8 n] w fun e w' => e = .returned (.bool (letN n)) ∧ w = w' := by
  go_enter Tryz.func74, Tryz.ntmps74
  go_wp2
  all_goals
    go_ret
    exact ⟨rb (by simp [letN] <;> omega), rfl⟩
set_option maxHeartbeats 1000000 in
theorem digit_any (n : Int) (w : World) : Calls Tryz.prog 92 #[.int .u8 n] w fun e w' => e = .returned (.bool (digN n)) ∧ w = w' := by
  go_enter Tryz.func92, Tryz.ntmps92
  go_wp2
  all_goals
    go_ret
    exact ⟨rb (by simp [digN] <;> omega), rfl⟩
set_option maxHeartbeats 1000000 in
theorem blank_any (n : Int) (w : World) : Calls Tryz.prog 90 #[.int .u8 n] w fun e w' => e = .returned (.bool (blkN n)) ∧ w = w' := by
  go_enter Tryz.func90, Tryz.ntmps90
  go_wp2
  all_goals
    go_ret
    exact ⟨rb (by simp [blkN] <;> omega), rfl⟩
set_option maxHeartbeats 1000000 in
theorem wordc_any (n : Int) (c : Bool) (w : World) : Calls Tryz.prog 106 #[.int .u8 n] w fun e w' => e = .returned (.bool (wGo c n)) ∧ w = w' := by
  have c1 := letter_any n w
  have c2 := digit_any n w
  unfold wGo wdN
  cases h : letN n
  · rw [h] at c1
    have C1 := Lib.hid c1
    have C2 := Lib.hid c2
    clear c1 c2 h
    go_enter Tryz.func106, Tryz.ntmps106
    go_wp2_with fail
    refine C1.out.mono ?_
    rintro e w1 ⟨rfl, rfl⟩
    go_wp2_with fail
    refine C2.out.mono ?_
    rintro e w1 ⟨rfl, rfl⟩
    go_wp2_with fail
    go_ret
    exact ⟨by simp, rfl⟩
  · rw [h] at c1
    have C1 := Lib.hid c1
    clear c1 c2 h
    go_enter Tryz.func106, Tryz.ntmps106
    go_wp2_with fail
    refine C1.out.mono ?_
    rintro e w1 ⟨rfl, rfl⟩
    go_wp2_with fail
    go_ret
    exact ⟨by simp, rfl⟩
def Flag (w : World) (g : Nat) (c : Bool) : Prop := RowB w g 4 #[.bool c]
theorem Flag.put {w : World} {g : Nat} {c : Bool} (h : Flag w g c) (d : Bool) : Flag (w.setCell ⟨g, 0, none⟩ (.bool d)) g d := RowB.put h 0 _
set_option maxHeartbeats 2000000 in
theorem leadc_any (n : Int) (g : Nat) (c : Bool) (w : World) (hf : Flag w g c) :
    Calls Tryz.prog 89 #[.int .u8 n, .pointer (some ⟨g, 0, none⟩)] w fun e w' => e = .returned (.bool (lGo c n)) ∧ Flag w' g (cmt c n) ∧ Below g w w' := by
  unfold lGo
  have hc : w.cell? ⟨g, 0, none⟩ = some (.bool c) := RowB.cell hf 0
  have hz : w.frozen? ⟨g, 0, none⟩ = false := RowB.thaw hf 0
  have hlt : g < w.heap.size := RowB.lt hf
  have HFl := Lib.hid hf
  clear hf
  by_cases h10 : n = 10
  · subst h10
    have F1 := Lib.hid (HFl.out.put false)
    have B1 := Lib.hid ((Below.refl g w).setCell (p := ⟨g, 0, none⟩) (Nat.le_refl _) (.bool false))
    have c1 := blank_any 10 (w.setCell ⟨g, 0, none⟩ (.bool false))
    have C1 := Lib.hid c1
    clear c1
    go_enter Tryz.func89, Tryz.ntmps89
    go_wp2_with fail
    refine C1.out.mono ?_
    rintro e w1 ⟨rfl, rfl⟩
    go_wp2_with fail
    go_ret
    exact ⟨by simp [cmt], F1.out, B1.out⟩
  have q1 : (n == 10) = false := by simpa using h10
  by_cases h35 : n = 35
  · subst h35
    have F1 := Lib.hid (HFl.out.put true)
    have B1 := Lib.hid ((Below.refl g w).setCell (p := ⟨g, 0, none⟩) (Nat.le_refl _) (.bool true))
    clear h10 q1
    go_enter Tryz.func89, Tryz.ntmps89
    go_wp2_with fail
    go_ret
    exact ⟨by simp [cmt], F1.out, B1.out⟩
  have q2 : (n == 35) = false := by simpa using h35
  have e1 : cmt c n = c := by simp [cmt, h10, h35]
  rw [e1]
  cases c
  · have c1 := blank_any n w
    have C1 := Lib.hid c1
    clear c1 h10 h35 e1
    go_enter Tryz.func89, Tryz.ntmps89
    go_wp2_with fail
    refine C1.out.mono ?_
    rintro e w1 ⟨rfl, rfl⟩
    go_wp2_with fail
    go_ret
    exact ⟨by simp, HFl.out, Below.refl _ _⟩
  · clear h10 h35 e1
    go_enter Tryz.func89, Tryz.ntmps89
    go_wp2_with fail
    go_ret
    exact ⟨by simp, HFl.out, Below.refl _ _⟩
set_option maxHeartbeats 2000000 in
theorem quotc_any (n : Int) (g : Nat) (c : Bool) (w : World) (hf : Flag w g c) :
    Calls Tryz.prog 112 #[.int .u8 n, .pointer (some ⟨g, 0, none⟩)] w fun e w' => e = .returned (.bool (qGo c n)) ∧ Flag w' g (sls c n) ∧ Below g w w' := by
  unfold qGo
  have hc : w.cell? ⟨g, 0, none⟩ = some (.bool c) := RowB.cell hf 0
  have hz : w.frozen? ⟨g, 0, none⟩ = false := RowB.thaw hf 0
  have hlt : g < w.heap.size := RowB.lt hf
  have HFl := Lib.hid hf
  clear hf
  have F1 := Lib.hid (HFl.out.put (sls c n))
  have B1 := Lib.hid ((Below.refl g w).setCell (p := ⟨g, 0, none⟩) (Nat.le_refl _) (.bool (sls c n)))
  by_cases h92 : n = 92
  · subst h92
    cases c
    all_goals
      go_enter Tryz.func112, Tryz.ntmps112
      go_wp2_with fail
      go_ret
      exact ⟨by simp, F1.out, B1.out⟩
  have q1 : (n == 92) = false := by simpa using h92
  have e1 : sls c n = false := by simp [sls, h92]
  rw [e1] at F1 B1 ⊢
  by_cases h34 : n = 34
  · subst h34
    clear h92 e1 q1
    cases c
    all_goals
      go_enter Tryz.func112, Tryz.ntmps112
      go_wp2_with fail
      go_ret
      exact ⟨by simp, F1.out, B1.out⟩
  · have q2 : (n != 34) = true := by simpa using h34
    have e2 : decide (n ≠ 34) = true := by simpa using h34
    rw [e2]
    clear h92 e1 h34 e2
    cases c
    all_goals
      go_enter Tryz.func112, Tryz.ntmps112
      go_wp2_with fail
      go_ret
      exact ⟨by simp, F1.out, B1.out⟩
def Far (st go : Bool → Int → Bool) (s : ByteArray) (k : Nat) (c : Bool) : Prop := runM st go false s.data.toList = k + runM st go c (s.data.toList.drop k)
theorem Far.first (st go : Bool → Int → Bool) (s : ByteArray) : Far st go s 0 false := by unfold Far; simp
theorem drop_cons' (T : ByteArray) (k : Nat) (h : k < T.size) : T.data.toList.drop k = T[k] :: T.data.toList.drop (k + 1) := by
  rw [List.drop_eq_getElem_cons (by simpa using h)]; rfl
theorem Far.next {st go : Bool → Int → Bool} {s : ByteArray} {k : Nat} {c : Bool} (h : Far st go s k c) (hk : k < s.size) (hg : go c s[k].toNat = true) : Far st go s (k + 1) (st c s[k].toNat) := by
  unfold Far at h ⊢
  rw [h, drop_cons' s k hk, runM_go hg]
  omega
theorem Far.stop {st go : Bool → Int → Bool} {s : ByteArray} {k : Nat} {c : Bool} (h : Far st go s k c) (hk : k < s.size) (hg : go c s[k].toNat = false) : runM st go false s.data.toList = k := by
  unfold Far at h
  rw [h, drop_cons' s k hk, runM_stop hg]
  rfl
theorem Far.done {st go : Bool → Int → Bool} {s : ByteArray} {c : Bool} (h : Far st go s s.size c) : runM st go false s.data.toList = s.size := by
  unfold Far at h
  rw [h, List.drop_of_length_le (by rw [len_list]; exact Nat.le_refl _)]
  rfl
set_option maxHeartbeats 4000000 in
theorem prefix_word (s : ByteArray) (hs : s.size ≤ 100000) (w : World) :
    Calls Tryz.prog 88 #[.string s, .func (.func 106) #[] #[]] w fun e w' => e = .returned (.int .i64 (runM wSt wGo false s.data.toList)) ∧ w = w' := by
  go_enter Tryz.func88, Tryz.ntmps88
  go_wp2_with fail
  go_loopg [8] s.size (fun kx x wr => ∃ (k : Nat) (c : Bool), x = .int .i64 k ∧ k ≤ s.size ∧ s.size - k ≤ kx ∧ Hid (Far wSt wGo s k c) ∧ Hid (w = wr))
  case atStart => exact ⟨0, false, rfl, by omega, by omega, Far.first _ _ s, rfl⟩
  case round =>
    obtain ⟨k, c, rfl, hk, hkx, HF, HW⟩ := hrel
    obtain rfl := HW.out
    by_cases hlt : k < s.size
    · have hlz : (k : Int) < (s.size : Int) := by omega
      have cc := wordc_any (s[k]'hlt).toNat c w
      cases hg : wGo c (s[k]'hlt).toNat
      · rw [hg] at cc
        have C := Lib.hid cc
        have HF2 := Lib.hid (HF.out.stop hlt hg)
        clear cc hg
        go_wp2_with fail
        refine C.out.mono ?_
        rintro e w1 ⟨rfl, rfl⟩
        go_wp2_with fail
        go_ret
        exact ⟨ri (congrArg (fun n : Nat => (n : Int)) HF2.out).symm, rfl⟩
      · rw [hg] at cc
        have C := Lib.hid cc
        have HN := Lib.hid (HF.out.next hlt hg)
        clear cc hg
        go_wp2_with fail
        refine C.out.mono ?_
        rintro e w1 ⟨rfl, rfl⟩
        go_wp2_with fail
        go_roundg (s.size - (k + 1))
        case measure => omega
        case rel => exact ⟨k + 1, _, by go_num, by omega, by omega, HN.out, rfl⟩
    · obtain rfl : k = s.size := by omega
      have hlz : ¬ (s.size : Int) < (s.size : Int) := by omega
      have HF2 := Lib.hid HF.out.done
      clear hlt
      go_wp2_with fail
      go_ret
      exact ⟨ri (congrArg (fun n : Nat => (n : Int)) HF2.out).symm, rfl⟩
set_option maxHeartbeats 4000000 in
theorem prefix_lead (s : ByteArray) (hs : s.size ≤ 100000) (g : Nat) (w : World) (hf : Flag w g false) :
    Calls Tryz.prog 88 #[.string s, .func (.func 89) #[] #[.pointer (some ⟨g, 0, none⟩)]] w fun e w' => e = .returned (.int .i64 (runM cmt lGo false s.data.toList)) ∧ Below g w w' := by
  have HFl := Lib.hid hf
  clear hf
  go_enter Tryz.func88, Tryz.ntmps88
  go_wp2_with fail
  go_loopg [8] s.size (fun kx x wr => ∃ (k : Nat) (c : Bool), x = .int .i64 k ∧ k ≤ s.size ∧ s.size - k ≤ kx ∧ Hid (Far cmt lGo s k c) ∧ Hid (Flag wr g c) ∧ Hid (Below g w wr))
  case atStart => exact ⟨0, false, rfl, by omega, by omega, Far.first _ _ s, HFl.out, Below.refl _ _⟩
  case round =>
    obtain ⟨k, c, rfl, hk, hkx, HF, HC, HB⟩ := hrel
    by_cases hlt : k < s.size
    · have hlz : (k : Int) < (s.size : Int) := by omega
      have cc := leadc_any (s[k]'hlt).toNat g c wr HC.out
      cases hg : lGo c (s[k]'hlt).toNat
      · rw [hg] at cc
        have C := Lib.hid cc
        have HF2 := Lib.hid (HF.out.stop hlt hg)
        clear cc hg
        go_wp2_with fail
        refine C.out.mono ?_
        rintro e w1 ⟨rfl, hfl, hb⟩
        have HC1 := Lib.hid hfl
        have HB1 := Lib.hid (HB.out.trans hb)
        clear hfl hb
        go_wp2_with fail
        go_ret
        exact ⟨ri (congrArg (fun n : Nat => (n : Int)) HF2.out).symm, HB1.out⟩
      · rw [hg] at cc
        have C := Lib.hid cc
        have HN := Lib.hid (HF.out.next hlt hg)
        clear cc hg
        go_wp2_with fail
        refine C.out.mono ?_
        rintro e w1 ⟨rfl, hfl, hb⟩
        have HC1 := Lib.hid hfl
        have HB1 := Lib.hid (HB.out.trans hb)
        clear hfl hb
        go_wp2_with fail
        go_roundg (s.size - (k + 1))
        case measure => omega
        case rel => exact ⟨k + 1, _, by go_num, by omega, by omega, HN.out, HC1.out, HB1.out⟩
    · obtain rfl : k = s.size := by omega
      have hlz : ¬ (s.size : Int) < (s.size : Int) := by omega
      have HF2 := Lib.hid HF.out.done
      clear hlt
      go_wp2_with fail
      go_ret
      exact ⟨ri (congrArg (fun n : Nat => (n : Int)) HF2.out).symm, HB.out⟩
set_option maxHeartbeats 4000000 in
theorem prefix_quot (s : ByteArray) (hs : s.size ≤ 100000) (g : Nat) (w : World) (hf : Flag w g false) :
    Calls Tryz.prog 88 #[.string s, .func (.func 112) #[] #[.pointer (some ⟨g, 0, none⟩)]] w fun e w' => e = .returned (.int .i64 (runM sls qGo false s.data.toList)) ∧ Below g w w' := by
  have HFl := Lib.hid hf
  clear hf
  go_enter Tryz.func88, Tryz.ntmps88
  go_wp2_with fail
  go_loopg [8] s.size (fun kx x wr => ∃ (k : Nat) (c : Bool), x = .int .i64 k ∧ k ≤ s.size ∧ s.size - k ≤ kx ∧ Hid (Far sls qGo s k c) ∧ Hid (Flag wr g c) ∧ Hid (Below g w wr))
  case atStart => exact ⟨0, false, rfl, by omega, by omega, Far.first _ _ s, HFl.out, Below.refl _ _⟩
  case round =>
    obtain ⟨k, c, rfl, hk, hkx, HF, HC, HB⟩ := hrel
    by_cases hlt : k < s.size
    · have hlz : (k : Int) < (s.size : Int) := by omega
      have cc := quotc_any (s[k]'hlt).toNat g c wr HC.out
      cases hg : qGo c (s[k]'hlt).toNat
      · rw [hg] at cc
        have C := Lib.hid cc
        have HF2 := Lib.hid (HF.out.stop hlt hg)
        clear cc hg
        go_wp2_with fail
        refine C.out.mono ?_
        rintro e w1 ⟨rfl, hfl, hb⟩
        have HC1 := Lib.hid hfl
        have HB1 := Lib.hid (HB.out.trans hb)
        clear hfl hb
        go_wp2_with fail
        go_ret
        exact ⟨ri (congrArg (fun n : Nat => (n : Int)) HF2.out).symm, HB1.out⟩
      · rw [hg] at cc
        have C := Lib.hid cc
        have HN := Lib.hid (HF.out.next hlt hg)
        clear cc hg
        go_wp2_with fail
        refine C.out.mono ?_
        rintro e w1 ⟨rfl, hfl, hb⟩
        have HC1 := Lib.hid hfl
        have HB1 := Lib.hid (HB.out.trans hb)
        clear hfl hb
        go_wp2_with fail
        go_roundg (s.size - (k + 1))
        case measure => omega
        case rel => exact ⟨k + 1, _, by go_num, by omega, by omega, HN.out, HC1.out, HB1.out⟩
    · obtain rfl : k = s.size := by omega
      have hlz : ¬ (s.size : Int) < (s.size : Int) := by omega
      have HF2 := Lib.hid HF.out.done
      clear hlt
      go_wp2_with fail
      go_ret
      exact ⟨ri (congrArg (fun n : Nat => (n : Int)) HF2.out).symm, HB.out⟩
set_option maxHeartbeats 1000000 in
theorem wlen_any (s : ByteArray) (hs : s.size ≤ 100000) (w : World) : Calls Tryz.prog 75 #[.string s] w fun e w' => e = .returned (.int .i64 (wLen s.data.toList)) ∧ w = w' := by
  have C := Lib.hid (prefix_word s hs w)
  go_enter Tryz.func75, Tryz.ntmps75
  go_wp2_with fail
  refine C.out.mono ?_
  rintro e w1 ⟨rfl, rfl⟩
  go_wp2_with fail
  go_ret
  exact ⟨rfl, rfl⟩
set_option maxHeartbeats 1000000 in
theorem llen_any (s : ByteArray) (hs : s.size ≤ 100000) (w : World) : Calls Tryz.prog 62 #[.string s] w fun e w' => e = .returned (.int .i64 (lLen s.data.toList)) ∧ Below w.heap.size w w' := by
  have hmf : ∀ (fn : Fn) (first cap : Array Value) (w : World), (Instr.makeFunc fn first cap).run Tryz.prog w = .ok (.func fn first cap) w := fun _ _ _ _ => rfl
  have C := Lib.hid (prefix_lead s hs w.heap.size (w.alloc (.cells #[.bool false] 4)) (RowB.new w 4 _))
  go_enter Tryz.func62, Tryz.ntmps62
  go_wp2_with fail
  refine C.out.mono ?_
  rintro e w1 ⟨rfl, hb⟩
  have HB := Lib.hid (((Below.refl _ w).alloc (Nat.le_refl _) _).trans hb)
  clear hb
  go_wp2_with fail
  go_ret
  exact ⟨rfl, HB.out⟩
end Go.Proofs.YtiabkkdeonepgaaGreatDoor
namespace Go.Proofs.YtiabkkdeonepgaaGreatDoor
open Go.RowKit
def keys : List (List UInt8) := [[100, 101, 102], [100, 121, 110], [101, 108, 115, 101], [102, 110], [105, 102], [105, 110, 112, 117, 116], [105, 110, 116], [108, 101, 116], [112, 114, 105, 110, 116], [114, 101, 116, 117, 114, 110], [115, 116, 114], [117, 115, 101], [119, 104, 105, 108, 101]]
def keyL (l : List UInt8) : Bool := keys.contains l
set_option maxHeartbeats 2000000 in
theorem key_any (s : ByteArray) (w : World) : Calls Tryz.prog 76 #[.string s] w fun e w' => e = .returned (.bool (keyL s.data.toList)) ∧ w = w' := by
  rw [← ByteArray.toList_eq]
  go_enter Tryz.func76, Tryz.ntmps76
  go_wp2
  all_goals
    go_ret
    exact ⟨rb (by simp_all [keyL, keys]), rfl⟩
def Errs (w : World) : Prop := (∃ t p, w.cell? ⟨2, 0, none⟩ = some (.iface t p)) ∧ (∃ t p, w.cell? ⟨3, 0, none⟩ = some (.iface t p))
theorem Errs.below {w w' : World} (h : Errs w) (hb : Below w.heap.size w w') : Errs w' := by
  obtain ⟨⟨t, p, h1⟩, ⟨u, q, h2⟩⟩ := h
  exact ⟨⟨t, p, (hb.cell (World.block_lt_of_cell? _ _ h1)).trans h1⟩, ⟨u, q, (hb.cell (World.block_lt_of_cell? _ _ h2)).trans h2⟩⟩
def numOk (l : List UInt8) : Bool := match Lib.parseIntB 64 l with
  | .ok _ => true
  | _ => false
def Parsed (b : Bool) (w : World) (e : Ending) (w' : World) : Prop :=
  (∃ v, (b = true ∧ e = .returned (.tuple #[.int .i64 v, .nilIface])) ∨ (b = false ∧ ∃ N, e = .returned (.tuple #[.int .i64 v, .iface 147 (.pointer (some ⟨N, 0, none⟩))]))) ∧ Below w.heap.size w w'
theorem bytesWorld_below (w : World) (s : ByteArray) : Below w.heap.size w (Lib.bytesWorld w 5 s) :=
  ⟨rfl, rfl, rfl, by rw [Lib.bytesWorld_size]; omega, fun k hk => Lib.bytesWorld_at_old w 5 s k hk⟩
theorem parse_any (s : ByteArray) (hs : s.size ≤ 100000) (w : World) (he : Errs w) : Calls Tryz.prog 111 #[.string s, .int .i64 10, .int .i64 64] w (Parsed (numOk s.data.toList) w) := by
  obtain ⟨⟨t, p, h1⟩, ⟨u, q, h2⟩⟩ := he
  unfold numOk
  cases h : Lib.parseIntB 64 s.data.toList with
  | ok v =>
    refine (sh_strconv_ParseInt_10_at64_ok s (by omega) v h w).mono ?_
    rintro e w' ⟨he, hw⟩
    refine ⟨⟨v, .inl ⟨rfl, he⟩⟩, ?_⟩
    rcases hw with rfl | ⟨t, rfl⟩
    · exact Below.refl _ _
    · exact bytesWorld_below w t
  | range =>
    refine (sh_strconv_ParseInt_10_at64_range s (by omega) h _ w h2 (.inr ⟨_, _, rfl⟩)).mono ?_
    rintro e w' ⟨N, he, _, _, hb⟩
    exact ⟨⟨_, .inr ⟨rfl, N, he⟩⟩, hb⟩
  | _ =>
    refine (Any.strconv_ParseInt_10_at64_syntax sh_laysC174 s (by omega) h _ w h1 (.inr ⟨_, _, rfl⟩)).mono ?_
    rintro e w' ⟨N, he, _, _, hb⟩
    exact ⟨⟨_, .inr ⟨rfl, N, he⟩⟩, hb⟩
def tri (x : Nat × Nat × Nat) : Ending := .returned (.tuple #[.int .i64 x.1, .int .i64 x.2.1, .int .i64 x.2.2])
def wordL (l : List UInt8) : Nat × Nat × Nat := if keyL (l.take (wLen l)) = true then (2, wLen l, 0) else if wLen l > 40 then (0, 0, 26) else (1, wLen l, 0)
def numL (l : List UInt8) : Nat × Nat × Nat := if numOk (l.take (wLen l)) = true then (3, wLen l, 0) else (0, 0, 23)
def qLong (l : List UInt8) : Nat := min (1 + qLen (l.drop 1) + 1) l.length
def quotL (l : List UInt8) : Nat × Nat × Nat := if (unq (l.take (qLong l))).isSome = true then (4, qLong l, 0) else (0, 0, 22)
def signs : List UInt8 := [40, 41, 123, 125, 44, 59, 58, 46, 61, 43, 45, 42, 60]
def signL (l : List UInt8) : Nat × Nat × Nat := if Lib.hasPrefix l [61, 61] = true then (5, 2, 0) else if 0 ≤ Lib.indexByte signs (l.getD 0 0) then (5, 1, 0) else (0, 0, 21)
theorem ext_pre' (s : ByteArray) (n : Nat) : (s.extract 0 n).data.toList = s.data.toList.take n := by
  rw [ByteArray.data_extract, Array.toList_extract, List.extract_eq_take_drop, List.drop_zero, Nat.sub_zero]
theorem wLen_le (l : List UInt8) : wLen l ≤ l.length := runM_le _ _ _ _
theorem tri_eq {x : Nat × Nat × Nat} {a b c : Nat} (h : x = (a, b, c)) : Ending.returned (.tuple #[.int .i64 (a : Int), .int .i64 (b : Int), .int .i64 (c : Int)]) = tri x := by rw [h]; rfl
set_option maxHeartbeats 1000000 in
theorem word_any (s : ByteArray) (hs : s.size ≤ 100000) (w : World) : Calls Tryz.prog 91 #[.string s] w fun e w' => e = tri (wordL s.data.toList) ∧ w = w' := by
  have c1 := wlen_any s hs w
  have hle := wLen_le s.data.toList
  rw [len_list] at hle
  have c2 := key_any (s.extract 0 (wLen s.data.toList)) w
  rw [ext_pre'] at c2
  obtain ⟨x, hx⟩ : ∃ x, x = wordL s.data.toList := ⟨_, rfl⟩
  rw [← hx]
  unfold wordL at hx
  obtain ⟨n, hn⟩ : ∃ n, n = wLen s.data.toList := ⟨_, rfl⟩
  rw [← hn] at c1 hle c2 hx
  have hnz : (n : Int) ≤ (s.size : Int) := by omega
  cases hk : keyL (s.data.toList.take n)
  · rw [hk] at c2 hx
    rw [if_neg (by decide)] at hx
    have C1 := Lib.hid c1
    have C2 := Lib.hid c2
    by_cases h40 : n > 40
    · have hz : (n : Int) > 40 := by omega
      rw [if_pos h40] at hx
      have HX := Lib.hid hx
      clear c1 c2 hx hn hk
      go_enter Tryz.func91, Tryz.ntmps91
      go_wp2_with fail
      refine C1.out.mono ?_
      rintro e w1 ⟨rfl, rfl⟩
      go_wp2_with fail
      refine C2.out.mono ?_
      rintro e w1 ⟨rfl, rfl⟩
      go_wp2_with fail
      go_ret3
      exact ⟨tri_eq (a := 0) (b := 0) (c := 26) HX.out, rfl⟩
    · have hz : ¬ (n : Int) > 40 := by omega
      rw [if_neg h40] at hx
      have HX := Lib.hid hx
      clear c1 c2 hx hn hk
      go_enter Tryz.func91, Tryz.ntmps91
      go_wp2_with fail
      refine C1.out.mono ?_
      rintro e w1 ⟨rfl, rfl⟩
      go_wp2_with fail
      refine C2.out.mono ?_
      rintro e w1 ⟨rfl, rfl⟩
      go_wp2_with fail
      go_ret3
      exact ⟨tri_eq (a := 1) (b := n) (c := 0) HX.out, rfl⟩
  · rw [hk] at c2 hx
    rw [if_pos rfl] at hx
    have C1 := Lib.hid c1
    have C2 := Lib.hid c2
    have HX := Lib.hid hx
    clear c1 c2 hx hn hk
    go_enter Tryz.func91, Tryz.ntmps91
    go_wp2_with fail
    refine C1.out.mono ?_
    rintro e w1 ⟨rfl, rfl⟩
    go_wp2_with fail
    refine C2.out.mono ?_
    rintro e w1 ⟨rfl, rfl⟩
    go_wp2_with fail
    go_ret3
    exact ⟨tri_eq (a := 2) (b := n) (c := 0) HX.out, rfl⟩
set_option maxHeartbeats 1000000 in
theorem number_any (s : ByteArray) (hs : s.size ≤ 100000) (w : World) (hE : Errs w) : Calls Tryz.prog 93 #[.string s] w fun e w' => e = tri (numL s.data.toList) ∧ Below w.heap.size w w' := by
  have c1 := wlen_any s hs w
  have hle := wLen_le s.data.toList
  rw [len_list] at hle
  have c2 := parse_any (s.extract 0 (wLen s.data.toList)) (by rw [ByteArray.size_extract]; omega) w hE
  rw [ext_pre'] at c2
  obtain ⟨x, hx⟩ : ∃ x, x = numL s.data.toList := ⟨_, rfl⟩
  rw [← hx]
  unfold numL at hx
  obtain ⟨n, hn⟩ : ∃ n, n = wLen s.data.toList := ⟨_, rfl⟩
  rw [← hn] at c1 hle c2 hx
  have hnz : (n : Int) ≤ (s.size : Int) := by omega
  have C1 := Lib.hid c1
  have C2 := Lib.hid c2
  have HX := Lib.hid hx
  clear c1 c2 hx hn hE
  go_enter Tryz.func93, Tryz.ntmps93
  go_wp2_with fail
  refine C1.out.mono ?_
  rintro e w1 ⟨rfl, rfl⟩
  go_wp2_with fail
  refine C2.out.mono ?_
  rintro e w1 ⟨⟨v, hv⟩, hb⟩
  have HB := Lib.hid hb
  clear hb
  rcases hv with ⟨hok, rfl⟩ | ⟨hok, N, rfl⟩
  · have HX2 := HX.out
    rw [hok, if_pos rfl] at HX2
    have HX3 := Lib.hid HX2
    clear hok HX2
    go_wp2_with fail
    go_ret3
    exact ⟨tri_eq (a := 3) (b := n) (c := 0) HX3.out, HB.out⟩
  · have HX2 := HX.out
    rw [hok, if_neg (by decide)] at HX2
    have HX3 := Lib.hid HX2
    clear hok HX2
    go_wp2_with fail
    go_ret3
    exact ⟨tri_eq (a := 0) (b := 0) (c := 23) HX3.out, HB.out⟩
end Go.Proofs.YtiabkkdeonepgaaGreatDoor
namespace Go.Proofs.YtiabkkdeonepgaaGreatDoor
open Go.RowKit
theorem qLen_le (l : List UInt8) : qLen l ≤ l.length := runM_le _ _ _ _
set_option maxHeartbeats 1000000 in
theorem quoted_any (s : ByteArray) (hs : s.size ≤ 100000) (h0 : 0 < s.size) (w : World) : Calls Tryz.prog 94 #[.string s] w fun e w' => e = tri (quotL s.data.toList) ∧ Below w.heap.size w w' := by
  have hmf : ∀ (fn : Fn) (first cap : Array Value) (w : World), (Instr.makeFunc fn first cap).run Tryz.prog w = .ok (.func fn first cap) w := fun _ _ _ _ => rfl
  have c1 := prefix_quot (s.extract 1 s.size) (by rw [ByteArray.size_extract]; omega) w.heap.size (w.alloc (.cells #[.bool false] 4)) (RowB.new w 4 _)
  have hql := qLen_le (s.data.toList.drop 1)
  rw [List.length_drop, len_list] at hql
  have e1 : (s.extract 1 s.size).data.toList = s.data.toList.drop 1 := ext_end s 1
  rw [e1] at c1
  obtain ⟨x, hx⟩ : ∃ x, x = quotL s.data.toList := ⟨_, rfl⟩
  rw [← hx]
  unfold quotL qLong at hx
  rw [len_list] at hx
  obtain ⟨q, hq⟩ : ∃ q, q = qLen (s.data.toList.drop 1) := ⟨_, rfl⟩
  rw [← hq] at hx hql
  rw [show runM sls qGo false (s.data.toList.drop 1) = q from hq.symm] at c1
  obtain ⟨n, hn⟩ : ∃ n, n = min (1 + q + 1) s.size := ⟨_, rfl⟩
  rw [← hn] at hx
  have c2 := fun w => unquote_any (s.extract 0 n) w (by rw [ByteArray.size_extract]; omega)
  rw [ext_pre'] at c2
  have hns : n ≤ s.size := by omega
  have hz0 : (1 : Int) ≤ (s.size : Int) := by omega
  have hnz : (n : Int) ≤ (s.size : Int) := by omega
  have EN : min (1 + (q : Int) + 1) (s.size : Int) = (n : Int) := by omega
  have C1 := Lib.hid c1
  have C2 := Lib.hid c2
  have HX := Lib.hid hx
  clear c1 c2 hx hq e1 hn
  go_enter Tryz.func94, Tryz.ntmps94
  go_wp2_with fail
  refine C1.out.mono ?_
  rintro e w1 ⟨rfl, hb⟩
  have HB := Lib.hid (((Below.refl _ w).alloc (Nat.le_refl _) _).trans hb)
  clear hb
  go_wp2_with fail
  refine (C2.out _).mono ?_
  rintro e w2 ⟨he, hb⟩
  have HB2 := Lib.hid (HB.out.trans (hb.mono HB.out.size))
  clear hb
  unfold uq at he
  have HX2 := HX.out
  cases hu : unq (s.data.toList.take n) with
  | none =>
    rw [hu] at he HX2
    rw [if_neg (by decide)] at HX2
    have HX3 := Lib.hid HX2
    simp only at he
    subst he
    clear hu HX2
    go_wp2_with fail
    go_ret3
    exact ⟨tri_eq (a := 0) (b := 0) (c := 22) HX3.out, HB2.out⟩
  | some o =>
    rw [hu] at he HX2
    rw [if_pos (show (some o).isSome = true from rfl)] at HX2
    have HX3 := Lib.hid HX2
    simp only at he
    subst he
    clear hu HX2
    go_wp2_with fail
    go_ret3
    exact ⟨tri_eq (a := 4) (b := n) (c := 0) HX3.out, HB2.out⟩
set_option maxHeartbeats 1000000 in
theorem sign_any (s : ByteArray) (_hs : s.size ≤ 100000) (h0 : 0 < s.size) (w : World) : Calls Tryz.prog 95 #[.string s] w fun e w' => e = tri (signL s.data.toList) ∧ w = w' := by
  have c1 := sh_strings_HasPrefix s ⟨#[61, 61]⟩ w
  have e1 : (ByteArray.mk #[61, 61]).data.toList = [61, 61] := rfl
  rw [e1] at c1
  have c2 := sh_strings_IndexByte ⟨#[40, 41, 123, 125, 44, 59, 58, 46, 61, 43, 45, 42, 60]⟩ (s[0]'h0).toNat w
  have e2 : (ByteArray.mk #[40, 41, 123, 125, 44, 59, 58, 46, 61, 43, 45, 42, 60]).data.toList = signs := rfl
  have e3 : ((s[0]'h0).toNat : Int).toNat.toUInt8 = s.data.toList.getD 0 0 := by
    rw [Int.toNat_natCast]
    have : s.data.toList.getD 0 0 = s[0]'h0 := by
      rw [List.getD_eq_getElem?_getD, List.getElem?_eq_getElem (by simpa using h0)]
      rfl
    rw [this]
    simp
  rw [e2, e3] at c2
  obtain ⟨x, hx⟩ : ∃ x, x = signL s.data.toList := ⟨_, rfl⟩
  rw [← hx]
  unfold signL at hx
  obtain ⟨k, hk⟩ : ∃ k, k = Lib.indexByte signs (s.data.toList.getD 0 0) := ⟨_, rfl⟩
  rw [← hk] at c2 hx
  cases hp : Lib.hasPrefix s.data.toList [61, 61]
  · rw [hp] at c1 hx
    rw [if_neg (by decide)] at hx
    have C1 := Lib.hid c1
    have C2 := Lib.hid c2
    by_cases hk0 : 0 ≤ k
    · have hz : k ≥ 0 := hk0
      rw [if_pos hk0] at hx
      have HX := Lib.hid hx
      clear c1 c2 hx hk hp e1 e2 e3 hk0
      go_enter Tryz.func95, Tryz.ntmps95
      go_wp2_with fail
      refine C1.out.mono ?_
      rintro e w1 ⟨rfl, rfl⟩
      go_wp2_with fail
      refine C2.out.mono ?_
      rintro e w1 ⟨rfl, rfl⟩
      go_wp2_with fail
      go_ret3
      exact ⟨tri_eq (a := 5) (b := 1) (c := 0) HX.out, rfl⟩
    · have hz : ¬ k ≥ 0 := hk0
      rw [if_neg hk0] at hx
      have HX := Lib.hid hx
      clear c1 c2 hx hk hp e1 e2 e3 hk0
      go_enter Tryz.func95, Tryz.ntmps95
      go_wp2_with fail
      refine C1.out.mono ?_
      rintro e w1 ⟨rfl, rfl⟩
      go_wp2_with fail
      refine C2.out.mono ?_
      rintro e w1 ⟨rfl, rfl⟩
      go_wp2_with fail
      go_ret3
      exact ⟨tri_eq (a := 0) (b := 0) (c := 21) HX.out, rfl⟩
  · rw [hp] at c1 hx
    rw [if_pos rfl] at hx
    have C1 := Lib.hid c1
    have HX := Lib.hid hx
    clear c1 c2 hx hk hp e1 e2 e3
    go_enter Tryz.func95, Tryz.ntmps95
    go_wp2_with fail
    refine C1.out.mono ?_
    rintro e w1 ⟨rfl, rfl⟩
    go_wp2_with fail
    go_ret3
    exact ⟨tri_eq (a := 5) (b := 2) (c := 0) HX.out, rfl⟩
def firstL (l : List UInt8) : Nat × Nat × Nat :=
  if l = [] then (0, 0, 0) else if letN (l.getD 0 0).toNat = true then wordL l else if digN (l.getD 0 0).toNat = true then numL l else if (l.getD 0 0).toNat = 34 then quotL l else signL l
theorem head_of (s : ByteArray) (h0 : 0 < s.size) : (s.data.toList.getD 0 0).toNat = (s[0]'h0).toNat := (gb_of s 0 h0).symm
set_option maxHeartbeats 1000000 in
theorem first_any (s : ByteArray) (hs : s.size ≤ 100000) (w : World) (hE : Errs w) : Calls Tryz.prog 63 #[.string s] w fun e w' => e = tri (firstL s.data.toList) ∧ Below w.heap.size w w' := by
  obtain ⟨x, hx⟩ : ∃ x, x = firstL s.data.toList := ⟨_, rfl⟩
  rw [← hx]
  unfold firstL at hx
  by_cases h0 : 0 < s.size
  · have hne : s.data.toList ≠ [] := by
      intro e
      have := len_list s
      rw [e] at this
      simp at this
      omega
    rw [if_neg hne, head_of s h0] at hx
    have hnt : s.toList ≠ [] := by rw [ByteArray.toList_eq]; exact hne
    have hnt2 : (s.toList == []) = false := by simpa using hnt
    have hnt3 : s.toList.isEmpty = false := by simpa using hnt
    have c1 := fun w => letter_any (s[0]'h0).toNat w
    cases h1 : letN (s[0]'h0).toNat
    · rw [h1] at c1 hx
      rw [if_neg (by decide)] at hx
      have c2 := fun w => digit_any (s[0]'h0).toNat w
      cases h2 : digN (s[0]'h0).toNat
      · rw [h2] at c2 hx
        rw [if_neg (by decide)] at hx
        by_cases h3 : (s[0]'h0).toNat = 34
        · rw [if_pos h3] at hx
          have q : (((s[0]'h0).toNat : Int) == 34) = true := by simp; omega
          have C1 := Lib.hid c1
          have C2 := Lib.hid c2
          have C3 := Lib.hid (quoted_any s hs h0 w)
          have HX := Lib.hid hx
          clear c1 c2 hx h1 h2 h3 hE hne
          go_enter Tryz.func63, Tryz.ntmps63
          go_wp2_with fail
          refine (C1.out _).mono ?_
          rintro e w1 ⟨rfl, rfl⟩
          go_wp2_with fail
          refine (C2.out _).mono ?_
          rintro e w1 ⟨rfl, rfl⟩
          go_wp2_with fail
          refine C3.out.mono ?_
          rintro e w1 ⟨he, hb⟩
          rw [← HX.out] at he
          unfold tri at he
          subst he
          have HB := Lib.hid hb
          clear hb
          go_wp2_with fail
          go_ret3
          exact ⟨rfl, HB.out⟩
        · rw [if_neg h3] at hx
          have q : (((s[0]'h0).toNat : Int) == 34) = false := by simp; omega
          have C1 := Lib.hid c1
          have C2 := Lib.hid c2
          have C3 := Lib.hid (sign_any s hs h0 w)
          have HX := Lib.hid hx
          clear c1 c2 hx h1 h2 h3 hE hne
          go_enter Tryz.func63, Tryz.ntmps63
          go_wp2_with fail
          refine (C1.out _).mono ?_
          rintro e w1 ⟨rfl, rfl⟩
          go_wp2_with fail
          refine (C2.out _).mono ?_
          rintro e w1 ⟨rfl, rfl⟩
          go_wp2_with fail
          refine C3.out.mono ?_
          rintro e w1 ⟨he, rfl⟩
          rw [← HX.out] at he
          unfold tri at he
          subst he
          go_wp2_with fail
          go_ret3
          exact ⟨rfl, Below.refl _ _⟩
      · rw [h2] at c2 hx
        rw [if_pos rfl] at hx
        have C1 := Lib.hid c1
        have C2 := Lib.hid c2
        have C3 := Lib.hid (number_any s hs w hE)
        have HX := Lib.hid hx
        clear c1 c2 hx h1 h2 hE hne
        go_enter Tryz.func63, Tryz.ntmps63
        go_wp2_with fail
        refine (C1.out _).mono ?_
        rintro e w1 ⟨rfl, rfl⟩
        go_wp2_with fail
        refine (C2.out _).mono ?_
        rintro e w1 ⟨rfl, rfl⟩
        go_wp2_with fail
        refine C3.out.mono ?_
        rintro e w1 ⟨he, hb⟩
        rw [← HX.out] at he
        unfold tri at he
        subst he
        have HB := Lib.hid hb
        clear hb
        go_wp2_with fail
        go_ret3
        exact ⟨rfl, HB.out⟩
    · rw [h1] at c1 hx
      rw [if_pos rfl] at hx
      have C1 := Lib.hid c1
      have C3 := Lib.hid (word_any s hs w)
      have HX := Lib.hid hx
      clear c1 hx h1 hE hne
      go_enter Tryz.func63, Tryz.ntmps63
      go_wp2_with fail
      refine (C1.out _).mono ?_
      rintro e w1 ⟨rfl, rfl⟩
      go_wp2_with fail
      refine C3.out.mono ?_
      rintro e w1 ⟨he, rfl⟩
      rw [← HX.out] at he
      unfold tri at he
      subst he
      go_wp2_with fail
      go_ret3
      exact ⟨rfl, Below.refl _ _⟩
  · have hl : s.data.toList = [] := List.eq_nil_of_length_eq_zero (by rw [len_list]; omega)
    rw [if_pos hl] at hx
    have hnt : s.toList = [] := by rw [ByteArray.toList_eq]; exact hl
    have HX := Lib.hid hx
    clear hl hx h0 hE
    go_enter Tryz.func63, Tryz.ntmps63
    go_wp2_with fail
    go_ret3
    exact ⟨tri_eq (a := 0) (b := 0) (c := 0) HX.out, Below.refl _ _⟩
end Go.Proofs.YtiabkkdeonepgaaGreatDoor
namespace Go.Proofs.YtiabkkdeonepgaaGreatDoor
open Go.RowKit
def atK (s : ByteArray) (k : Nat) : Nat := k + lLen (tl s k)
theorem lLen_le (l : List UInt8) : lLen l ≤ l.length := runM_le _ _ _ _
theorem atK_le (s : ByteArray) (k : Nat) (h : k ≤ s.size) : k ≤ atK s k ∧ atK s k ≤ s.size := by
  have := lLen_le (tl s k)
  rw [tl_len] at this
  unfold atK
  omega
abbrev tokV (kind at_ : Int) (lead text : ByteArray) : Value := .agg #[.int .i64 kind, .int .i64 at_, .string lead, .string text]
def nextE (s : ByteArray) (k : Nat) : Ending :=
  if (firstL (tl s (atK s k))).2.2 = 0 then .returned (.tuple #[tokV (firstL (tl s (atK s k))).1 (atK s k) (s.extract k (atK s k)) (s.extract (atK s k) (atK s k + (firstL (tl s (atK s k))).2.1)), .int .i64 0])
  else .returned (.tuple #[tokV 0 (atK s k) ⟨#[]⟩ ⟨#[]⟩, .int .i64 (firstL (tl s (atK s k))).2.2])
set_option maxHeartbeats 2000000 in
theorem next_bad (s : ByteArray) (k : Nat) (hs : s.size ≤ 100000) (hk : k ≤ s.size) (w : World) (hE : Errs w) (he : (firstL (tl s (atK s k))).2.2 ≠ 0) :
    Calls Tryz.prog 42 #[.string s, .int .i64 k] w fun e w' => e = nextE s k ∧ Below w.heap.size w w' := by
  have c1 := fun w => llen_any (s.extract k s.size) (by rw [ByteArray.size_extract]; omega) w
  rw [ext_end] at c1
  obtain ⟨ha, hb⟩ := atK_le s k hk
  have e1 : atK s k = k + lLen (tl s k) := rfl
  have c2 := fun w hE => first_any (s.extract (atK s k) s.size) (by rw [ByteArray.size_extract]; omega) w hE
  rw [ext_end] at c2
  have HN : Hid (nextE s k = .returned (.tuple #[tokV 0 (atK s k) ⟨#[]⟩ ⟨#[]⟩, .int .i64 (firstL (tl s (atK s k))).2.2])) := by
    show _ = _
    unfold nextE
    rw [if_neg he]
  obtain ⟨f, hf⟩ : ∃ f, f = firstL (tl s (atK s k)) := ⟨_, rfl⟩
  rw [← hf] at c2 HN he
  obtain ⟨x, y, z⟩ := f
  obtain ⟨a, haa⟩ : ∃ a, a = atK s k := ⟨_, rfl⟩
  obtain ⟨m, hm⟩ : ∃ m, m = lLen (tl s k) := ⟨_, rfl⟩
  rw [← haa] at c2 HN ha hb e1
  rw [← hm] at c1 e1
  unfold tri at c2
  simp only at c2 HN he
  have hkz : (k : Int) ≤ (s.size : Int) := by omega
  have haz : (a : Int) ≤ (s.size : Int) := by omega
  have EA : (k : Int) + (m : Int) = (a : Int) := by omega
  have hz : ((z : Int) != 0) = true := by simp; omega
  have C1 := Lib.hid c1
  have C2 := Lib.hid c2
  have HE := Lib.hid hE
  clear c1 c2 hf haa hm e1 hE he
  go_enter Tryz.func42, Tryz.ntmps42
  go_wp2_with fail
  refine (C1.out _).mono ?_
  rintro e w1 ⟨rfl, hb1⟩
  have R0 := Lib.hid (RowB.new w 35 #[.int .i64 0, .int .i64 0, .string ⟨#[]⟩, .string ⟨#[]⟩])
  have R1 := Lib.hid (R0.out.below hb1 (by simp))
  have HB0 := Lib.hid ((Below.refl w.heap.size w).alloc (Nat.le_refl _) (.cells #[.int .i64 0, .int .i64 0, .string ⟨#[]⟩, .string ⟨#[]⟩] 35))
  have HB1 := Lib.hid (HB0.out.trans (hb1.mono HB0.out.size))
  clear hb1
  go_wp2_with fail
  refine (C2.out _ (HE.out.below HB1.out)).mono ?_
  rintro e w2 ⟨rfl, hb2⟩
  have R2 := Lib.hid (R1.out.below hb2 R1.out.lt)
  have HB2 := Lib.hid (step_below HB1.out hb2)
  obtain ⟨q0, q1, q2, q3⟩ := (⟨R2.out.cell 0, R2.out.cell 1, R2.out.cell 2, R2.out.cell 3⟩ : w2.cell? ⟨w.heap.size, 0, none⟩ = some (.int .i64 0) ∧ w2.cell? ⟨w.heap.size, 1, none⟩ = some (.int .i64 0) ∧ w2.cell? ⟨w.heap.size, 2, none⟩ = some (.string ⟨#[]⟩) ∧ w2.cell? ⟨w.heap.size, 3, none⟩ = some (.string ⟨#[]⟩))
  have hfz := R2.out.thaw
  have hlt := R2.out.lt
  clear hb2
  go_wp2_with fail
  refine bodyPost_ret (v := .tuple #[tokV 0 a ⟨#[]⟩ ⟨#[]⟩, .int .i64 z]) (by simp [results, go_sem, *]) rfl ⟨HN.out.symm, ?_⟩
  exact ((((HB2.out.setCell (p := ⟨w.heap.size, 0, none⟩) (Nat.le_refl _) _).setCell (p := ⟨w.heap.size, 1, none⟩) (Nat.le_refl _) _).setCell (p := ⟨w.heap.size, 2, none⟩) (Nat.le_refl _) _).setCell (p := ⟨w.heap.size, 3, none⟩) (Nat.le_refl _) _)
theorem first_le (l : List UInt8) : (firstL l).2.1 ≤ l.length := by
  unfold firstL
  by_cases h : l = []
  · rw [if_pos h]; simp
  have h0 := len_pos h
  rw [if_neg h]
  have hw := wLen_le l
  split
  · unfold wordL
    split
    · exact hw
    · split
      · simp
      · exact hw
  · split
    · unfold numL
      split
      · exact hw
      · simp
    · split
      · unfold quotL
        split
        · show qLong l ≤ _
          unfold qLong
          omega
        · simp
      · unfold signL
        split
        · rename_i hp
          have : [61, 61].length ≤ l.length := (List.isPrefixOf_iff_prefix.1 hp).length_le
          exact this
        · split
          · exact h0
          · simp
set_option maxHeartbeats 4000000 in
theorem next_ok (s : ByteArray) (k : Nat) (hs : s.size ≤ 100000) (hk : k ≤ s.size) (w : World) (hE : Errs w) (he : (firstL (tl s (atK s k))).2.2 = 0) :
    Calls Tryz.prog 42 #[.string s, .int .i64 k] w fun e w' => e = nextE s k ∧ Below w.heap.size w w' := by
  have c1 := fun w => llen_any (s.extract k s.size) (by rw [ByteArray.size_extract]; omega) w
  rw [ext_end] at c1
  obtain ⟨ha, hb⟩ := atK_le s k hk
  have e1 : atK s k = k + lLen (tl s k) := rfl
  have c2 := fun w hE => first_any (s.extract (atK s k) s.size) (by rw [ByteArray.size_extract]; omega) w hE
  rw [ext_end] at c2
  have hfl := first_le (tl s (atK s k))
  rw [tl_len] at hfl
  have HN : Hid (nextE s k = .returned (.tuple #[tokV (firstL (tl s (atK s k))).1 (atK s k) (s.extract k (atK s k)) (s.extract (atK s k) (atK s k + (firstL (tl s (atK s k))).2.1)), .int .i64 0])) := by
    show _ = _
    unfold nextE
    rw [if_pos he]
  obtain ⟨f, hf⟩ : ∃ f, f = firstL (tl s (atK s k)) := ⟨_, rfl⟩
  rw [← hf] at c2 HN he hfl
  obtain ⟨x, y, z⟩ := f
  obtain ⟨a, haa⟩ : ∃ a, a = atK s k := ⟨_, rfl⟩
  obtain ⟨m, hm⟩ : ∃ m, m = lLen (tl s k) := ⟨_, rfl⟩
  rw [← haa] at c2 HN ha hb e1 hfl
  rw [← hm] at c1 e1
  unfold tri at c2
  simp only at c2 HN he hfl
  subst he
  obtain ⟨b, hbb⟩ : ∃ b, b = a + y := ⟨_, rfl⟩
  rw [← hbb] at HN
  have hkz : (k : Int) ≤ (s.size : Int) := by omega
  have haz : (a : Int) ≤ (s.size : Int) := by omega
  have hkaz : (k : Int) ≤ (a : Int) := by omega
  have habz : (a : Int) ≤ (b : Int) := by omega
  have hbz : (b : Int) ≤ (s.size : Int) := by omega
  have EA : (k : Int) + (m : Int) = (a : Int) := by omega
  have EB : (a : Int) + (y : Int) = (b : Int) := by omega
  have C1 := Lib.hid c1
  have C2 := Lib.hid c2
  have HE := Lib.hid hE
  clear c1 c2 hf haa hm e1 hE hfl hbb
  go_enter Tryz.func42, Tryz.ntmps42
  go_wp2_with fail
  refine (C1.out _).mono ?_
  rintro e w1 ⟨rfl, hb1⟩
  have R0 := Lib.hid (RowB.new w 35 #[.int .i64 0, .int .i64 0, .string ⟨#[]⟩, .string ⟨#[]⟩])
  have R1 := Lib.hid (R0.out.below hb1 (by simp))
  have HB0 := Lib.hid ((Below.refl w.heap.size w).alloc (Nat.le_refl _) (.cells #[.int .i64 0, .int .i64 0, .string ⟨#[]⟩, .string ⟨#[]⟩] 35))
  have HB1 := Lib.hid (HB0.out.trans (hb1.mono HB0.out.size))
  clear hb1
  go_wp2_with fail
  refine (C2.out _ (HE.out.below HB1.out)).mono ?_
  rintro e w2 ⟨rfl, hb2⟩
  have R2 := Lib.hid (R1.out.below hb2 R1.out.lt)
  have HB2 := Lib.hid (step_below HB1.out hb2)
  obtain ⟨q0, q1, q2, q3⟩ := (⟨R2.out.cell 0, R2.out.cell 1, R2.out.cell 2, R2.out.cell 3⟩ : w2.cell? ⟨w.heap.size, 0, none⟩ = some (.int .i64 0) ∧ w2.cell? ⟨w.heap.size, 1, none⟩ = some (.int .i64 0) ∧ w2.cell? ⟨w.heap.size, 2, none⟩ = some (.string ⟨#[]⟩) ∧ w2.cell? ⟨w.heap.size, 3, none⟩ = some (.string ⟨#[]⟩))
  have hfz := R2.out.thaw
  have hlt := R2.out.lt
  have WB : IntKind.i64.wrap (b : Int) = (b : Int) := IntWalk.i64_in _ (by omega)
  clear hb2
  go_wp2_with fail
  go_region
  all_goals
    go_wp2_with fail
    refine bodyPost_ret (v := .tuple #[tokV x a (s.extract k a) (s.extract a b), .int .i64 0]) (by simp [results, go_sem, *]) rfl ⟨HN.out.symm, ?_⟩
    have HBd := Lib.hid (HB2.out.trans ((Below.refl w2.heap.size w2).drew.mono HB2.out.size))
    exact ((((HBd.out.setCell (p := ⟨w.heap.size, 0, none⟩) (Nat.le_refl _) _).setCell (p := ⟨w.heap.size, 1, none⟩) (Nat.le_refl _) _).setCell (p := ⟨w.heap.size, 2, none⟩) (Nat.le_refl _) _).setCell (p := ⟨w.heap.size, 3, none⟩) (Nat.le_refl _) _)
theorem next_any (s : ByteArray) (k : Nat) (hs : s.size ≤ 100000) (hk : k ≤ s.size) (w : World) (hE : Errs w) :
    Calls Tryz.prog 42 #[.string s, .int .i64 k] w fun e w' => e = nextE s k ∧ Below w.heap.size w w' := by
  by_cases he : (firstL (tl s (atK s k))).2.2 = 0
  · exact next_ok s k hs hk w hE he
  · exact next_bad s k hs hk w hE he
end Go.Proofs.YtiabkkdeonepgaaGreatDoor
namespace Go.Proofs.YtiabkkdeonepgaaGreatDoor
open Go.RowKit
structure Tok where
  kind : Nat
  at_ : Nat
  lead : ByteArray
  text : ByteArray
def cellsT (t : Tok) : List Value := [.int .i64 t.kind, .int .i64 t.at_, .string t.lead, .string t.text]
def cellsL (l : List Tok) : List Value := l.flatMap cellsT
inductive LexR where
  | good (l : List Tok)
  | bad (e a : Int)
def LexR.pre (D : List Tok) : LexR → LexR
  | .good l => .good (D ++ l)
  | .bad e a => .bad e a
def tokK (s : ByteArray) (k : Nat) : Tok := ⟨(firstL (tl s (atK s k))).1, atK s k, s.extract k (atK s k), s.extract (atK s k) (atK s k + (firstL (tl s (atK s k))).2.1)⟩
def endK (s : ByteArray) (k : Nat) : Nat := atK s k + (firstL (tl s (atK s k))).2.1
def errK (s : ByteArray) (k : Nat) : Nat := (firstL (tl s (atK s k))).2.2
def lexF (s : ByteArray) : Nat → Nat → Nat → LexR
  | 0, _, _ => .bad 99 0
  | f + 1, k, n => if errK s k ≠ 0 then .bad (errK s k) (atK s k) else if n = 4000 then .bad 5 (atK s k) else if (tokK s k).kind = 0 then .good [tokK s k] else (lexF s f (endK s k) (n + 1)).pre [tokK s k]
def lexR (s : ByteArray) : LexR := if s.size > 16384 then .bad 5 16384 else if badAt s.data.toList ≠ none then .bad 20 (badI s.data.toList) else lexF s (s.size + 1) 0 0
theorem pre_pre (D E : List Tok) (r : LexR) : (r.pre E).pre D = r.pre (D ++ E) := by cases r <;> simp [LexR.pre]
theorem info47 : (Tryz.prog.info? 35).map (fun i => (i.zero, i.size, i.bytes)) = some (some (.agg #[.int .i64 0, .int .i64 0, .string ⟨#[]⟩, .string ⟨#[]⟩]), 4, 48) := by kernel_rfl
def Lexed (s : ByteArray) (w : World) (e : Ending) (w' : World) : Prop :=
  Below w.heap.size w w' ∧ match lexR s with
    | .good l => ∃ v, e = .returned (.tuple #[v, .int .i64 0, .int .i64 0]) ∧ w'.ownsRow w.heap.size 35 4 v l.length (cellsL l) ∧ l.length ≤ 4000
    | .bad er a => e = .returned (.tuple #[.slice none 0 0, .int .i64 er, .int .i64 a])
theorem own_below {w w' : World} {base e size n : Nat} {v : Value} {xs : List Value} (h : w.ownsRow base e size v n xs) (hb : Below w.heap.size w w') : w'.ownsRow base e size v n xs := by
  have hlt := h.lt
  refine ⟨h.1, ?_⟩
  rcases h.2 with ⟨hv, hn⟩ | ⟨g, cap, cur, rfl, h1, h2, h3⟩
  · exact .inl ⟨hv, hn⟩
  · exact .inr ⟨g, cap, cur, rfl, h1, (hb.block g (hlt g rfl).2).trans h2, h3⟩
theorem own_slice {w : World} {base e size n : Nat} {v : Value} {xs : List Value} (h : w.ownsRow base e size v n xs) : ∃ A cap, v = .slice A n cap := by
  rcases h.2 with ⟨hv, hx⟩ | ⟨g, cap, cur, hv, _⟩
  · subst hx; exact ⟨none, 0, hv⟩
  · exact ⟨_, cap, hv⟩
theorem cells_tok (w : World) (a b c d : Value) (j : Nat) (u : Value) (hj : [a, b, c, d][j]? = some u) : (w.alloc (.cells #[a, b, c, d] 35)).cell? ((⟨w.heap.size, 0, none⟩ : Addr).add j) = some u := by
  match j, hj with
  | 0, hj => simp at hj; subst hj; simp [Addr.add]
  | 1, hj => simp at hj; subst hj; simp [Addr.add]
  | 2, hj => simp at hj; subst hj; simp [Addr.add]
  | 3, hj => simp at hj; subst hj; simp [Addr.add]
  | (j + 4), hj => simp at hj
theorem one_tok (a b : Int) (c d : ByteArray) : ∀ u ∈ [Value.int .i64 a, .int .i64 b, .string c, .string d], u.oneCell' = true := by
  intro u hu
  simp at hu
  rcases hu with rfl | rfl | rfl | rfl <;> rfl
theorem cellsL_snoc (D : List Tok) (t : Tok) : cellsL (D ++ [t]) = cellsL D ++ cellsT t := by simp [cellsL]
theorem lexF_err {s : ByteArray} {f k n : Nat} (h : errK s k ≠ 0) : lexF s (f + 1) k n = .bad (errK s k) (atK s k) := by rw [lexF, if_pos h]
theorem lexF_many {s : ByteArray} {f k : Nat} (h : errK s k = 0) : lexF s (f + 1) k 4000 = .bad 5 (atK s k) := by rw [lexF, if_neg (by simp [h]), if_pos rfl]
theorem lexF_end {s : ByteArray} {f k n : Nat} (h : errK s k = 0) (hn : n ≠ 4000) (hk : (tokK s k).kind = 0) : lexF s (f + 1) k n = .good [tokK s k] := by rw [lexF, if_neg (by simp [h]), if_neg hn, if_pos hk]
theorem lexF_next {s : ByteArray} {f k n : Nat} (h : errK s k = 0) (hn : n ≠ 4000) (hk : (tokK s k).kind ≠ 0) : lexF s (f + 1) k n = (lexF s f (endK s k) (n + 1)).pre [tokK s k] := by rw [lexF, if_neg (by simp [h]), if_neg hn, if_neg hk]
theorem wLen_pos {b : UInt8} {t : List UInt8} (h : wdN b.toNat = true) : 1 ≤ wLen (b :: t) := by
  unfold wLen
  rw [runM_go (go := wGo) (by exact h)]
  omega
theorem first_kind (l : List UInt8) (h : (firstL l).2.2 = 0) : ((firstL l).1 = 0 ↔ l = []) ∧ ((firstL l).2.1 = 0 ↔ l = []) := by
  cases l with
  | nil => simp [firstL]
  | cons b t =>
    unfold firstL at h ⊢
    rw [if_neg (by simp)] at h ⊢
    have e : (b :: t).getD 0 0 = b := rfl
    rw [e] at h ⊢
    have hne : ¬ (b :: t : List UInt8) = [] := by simp
    simp only [hne, iff_false]
    by_cases h1 : letN b.toNat = true
    · rw [if_pos h1] at h ⊢
      have hp : 1 ≤ wLen (b :: t) := wLen_pos (by unfold wdN; rw [h1]; rfl)
      unfold wordL at h ⊢
      split
      · exact ⟨by simp, by simp only; omega⟩
      · rename_i hk
        rw [if_neg hk] at h
        split
        · rename_i h40
          rw [if_pos h40] at h
          cases h
        · exact ⟨by simp, by simp only; omega⟩
    rw [if_neg h1] at h ⊢
    by_cases h2 : digN b.toNat = true
    · rw [if_pos h2] at h ⊢
      have hp : 1 ≤ wLen (b :: t) := wLen_pos (by unfold wdN; rw [h2]; simp)
      unfold numL at h ⊢
      split
      · exact ⟨by simp, by simp only; omega⟩
      · rename_i hk
        rw [if_neg hk] at h
        cases h
    rw [if_neg h2] at h ⊢
    by_cases h3 : b.toNat = 34
    · rw [if_pos h3] at h ⊢
      unfold quotL at h ⊢
      split
      · refine ⟨by simp, ?_⟩
        simp only [qLong, List.length_cons]
        omega
      · rename_i hk
        rw [if_neg hk] at h
        cases h
    rw [if_neg h3] at h ⊢
    unfold signL at h ⊢
    split
    · exact ⟨by simp, by simp⟩
    · rename_i hp
      rw [if_neg hp] at h
      split
      · exact ⟨by simp, by simp⟩
      · rename_i hk
        rw [if_neg hk] at h
        cases h
theorem endK_le (s : ByteArray) (k : Nat) (h : k ≤ s.size) : atK s k ≤ endK s k ∧ endK s k ≤ s.size := by
  have h1 := first_le (tl s (atK s k))
  have h2 := (atK_le s k h).2
  rw [tl_len] at h1
  unfold endK
  omega
theorem tok_size (s : ByteArray) (k : Nat) (h : k ≤ s.size) : (tokK s k).at_ + (tokK s k).text.size = endK s k := by
  have h1 := endK_le s k h
  show atK s k + (s.extract (atK s k) (endK s k)).size = endK s k
  rw [ByteArray.size_extract]
  omega
theorem tok_pos (s : ByteArray) (k : Nat) (he : errK s k = 0) (hk : (tokK s k).kind ≠ 0) : atK s k < endK s k := by
  obtain ⟨h1, h2⟩ := first_kind (tl s (atK s k)) he
  have h3 : ¬ (firstL (tl s (atK s k))).2.1 = 0 := fun h => hk (h1.2 (h2.1 h))
  unfold endK
  omega
theorem nextE_good {s : ByteArray} {k : Nat} (h : errK s k = 0) : nextE s k = .returned (.tuple #[tokV (tokK s k).kind (tokK s k).at_ (tokK s k).lead (tokK s k).text, .int .i64 0]) := by
  unfold errK at h
  unfold nextE
  rw [if_pos h]
  rfl
theorem nextE_bad {s : ByteArray} {k : Nat} (h : errK s k ≠ 0) : nextE s k = .returned (.tuple #[tokV 0 (atK s k) ⟨#[]⟩ ⟨#[]⟩, .int .i64 (errK s k)]) := by
  unfold errK at h ⊢
  unfold nextE
  rw [if_neg h]
set_option maxHeartbeats 4000000 in
set_option maxRecDepth 100000 in
theorem lex_any (s : ByteArray) (hs : s.size ≤ 16384) (hg : badAt s.data.toList = none) (w : World) (hT : Tabs w) (hE : Errs w) :
    Calls Tryz.prog 24 #[.string s] w (Lexed s w) := by
  obtain ⟨i0, hi, hz0, hz1, hz2⟩ := info_parts info47
  have c := bad_any s w hT (by omega)
  rw [badI_none hg] at c
  have hsz : ¬ (s.size : Int) > 16384 := by omega
  have HR : Hid (lexR s = lexF s (s.size + 1) 0 0) := by
    show _ = _
    unfold lexR
    rw [if_neg (by omega), if_neg (by simp [hg])]
  have C := Lib.hid c
  have HE := Lib.hid hE
  clear c hT hE hg
  go_enter Tryz.func24, Tryz.ntmps24
  go_wp2_with fail
  refine C.out.mono ?_
  rintro e w1 ⟨rfl, hb1⟩
  have HB1 := Lib.hid hb1
  clear hb1
  go_wp2_with fail
  go_loopg [6, 7] (s.size + 1) (fun kx v x wr => ∃ (f k n : Nat) (D : List Tok) (u : Value), u = v ∧ x = .int .i64 k ∧ k ≤ s.size ∧ s.size + 1 - k ≤ kx ∧ s.size + 1 ≤ f + k ∧ n ≤ 4000 ∧ Hid (n = D.length) ∧ Hid (lexF s (s.size + 1) 0 0 = (lexF s f k n).pre D) ∧ wr.ownsRow w.heap.size 35 4 u n (cellsL D) ∧ Below w.heap.size w wr)
  case atStart => exact ⟨s.size + 1, 0, 0, [], _, rfl, rfl, by omega, by omega, by omega, by omega, rfl, by show _ = _; cases lexF s (s.size + 1) 0 0 <;> rfl, World.ownsRow_nil _ _ _ _, HB1.out⟩
  case round =>
    obtain ⟨f, k, n, D, u, rfl, rfl, hk, hkx, hf, hn, HD, HF, hown, hnx⟩ := hrel
    go_wp2_with fail
    refine (next_any s k (by omega) hk wr (HE.out.below hnx)).mono ?_
    rintro e w2 ⟨he, hb2⟩
    obtain ⟨ha1, ha2⟩ := atK_le s k hk
    obtain ⟨g, rfl⟩ : ∃ g, f = g + 1 := ⟨f - 1, by omega⟩
    have hown2 := own_below hown hb2
    have hnx2 := step_below hnx hb2
    have hltu := hown2.lt
    obtain ⟨A, cap, rfl⟩ := own_slice hown2
    have R0 := RowB.new w2 35 #[.int .i64 0, .int .i64 0, .string ⟨#[]⟩, .string ⟨#[]⟩]
    have hgt : ∀ h, (Value.slice A n cap).ownBlock = some h → h < w2.heap.size := fun h e => (hltu h e).2
    by_cases her : errK s k = 0
    · have he' : e = .returned (.tuple #[tokV (tokK s k).kind (tokK s k).at_ (tokK s k).lead (tokK s k).text, .int .i64 0]) := by
        rw [he, nextE_good her]
      obtain ⟨kd, hkd⟩ : ∃ kd, kd = (tokK s k).kind := ⟨_, rfl⟩
      obtain ⟨a, haa⟩ : ∃ a, a = (tokK s k).at_ := ⟨_, rfl⟩
      obtain ⟨ld, hld⟩ : ∃ ld, ld = (tokK s k).lead := ⟨_, rfl⟩
      obtain ⟨tx, htx⟩ : ∃ tx, tx = (tokK s k).text := ⟨_, rfl⟩
      rw [← hkd, ← haa, ← hld, ← htx] at he'
      have HB3 := Lib.hid (hnx2.alloc hnx2.size (.cells #[.int .i64 kd, .int .i64 a, .string ld, .string tx] 35))
      by_cases hmany : n = 4000
      · have z1 : ((n : Int) == 4000) = true := by simp; omega
        have HF2 : Hid (lexR s = .bad 5 a) := by
          show _ = _
          rw [HR.out, HF.out, hmany, lexF_many her, haa]
          rfl
        subst he'
        clear hown hown2 hb2 he her hkd haa hld htx ha1 ha2 R0 hltu hgt hmany
        go_wp2_with fail
        go_quiet (fail)
        go_wp2_with fail
        go_ret3
        refine ⟨below_drewN HB3.out _, ?_⟩
        rw [HF2.out]
        rfl
      · have z1 : ((n : Int) == 4000) = false := by simp; omega
        have T0 := Lib.hid (RowB.new w2 35 #[.int .i64 kd, .int .i64 a, .string ld, .string tx])
        have hown3 : (w2.alloc (.cells #[.int .i64 kd, .int .i64 a, .string ld, .string tx] 35)).ownsRow w.heap.size 35 4 (.slice A n cap) n (cellsL D) := hown2.alloc _
        have HF2 := Lib.hid hmany
        subst he'
        have HK1 := Lib.hid hkd
        have HK2 := Lib.hid haa
        have HK3 := Lib.hid hld
        have HK4 := Lib.hid htx
        have HER := Lib.hid her
        have HGT := Lib.hid hgt
        clear hown hown2 hb2 he hmany R0 hltu hkd haa hld htx her hgt
        have b3 : n + 1 ≤ maxLen := by unfold maxLen; omega
        have b4 : (n + 1) * 48 ≤ 140737488355328 := by omega
        have b5 : w.heap.size ≤ ((w2.alloc (.cells #[.int .i64 kd, .int .i64 a, .string ld, .string tx] 35)).alloc (.cells #[.int .i64 kd, .int .i64 a, .string ld, .string tx] 35)).heap.size := by have := hnx2.size; simp; omega
        have c1 := cells_tok (w2.alloc (.cells #[.int .i64 kd, .int .i64 a, .string ld, .string tx] 35)) (.int .i64 kd) (.int .i64 a) (.string ld) (.string tx)
        have C1 := Lib.hid c1
        clear c1
        go_wp2_with (at_builtin; refine wpList_append_own _ rfl (.tmp 36) (.tmp 38) 22 rfl w.heap.size 35 i0 (.agg #[.int .i64 0, .int .i64 0, .string ⟨#[]⟩, .string ⟨#[]⟩]) 4 48 Tryz.underlying22 hi hz0 hz1 hz2 rfl (by decide) _ _ _ rfl (hown3.alloc _) ⟨w2.heap.size + 1, 0, none⟩ 1 1 [.int .i64 kd, .int .i64 a, .string ld, .string tx] rfl rfl (by simpa using C1.out) (one_tok _ _ _ _) b3 b4 b5 ?_)
        intro v' w3 hown' hgrow _
        have T3 := Lib.hid ((T0.out.alloc (.cells #[.int .i64 kd, .int .i64 a, .string ld, .string tx] 35)).grown hgrow (fun h => by have := HGT.out _ h.symm; omega))
        have B3 := Lib.hid ((HB3.out.alloc HB3.out.size (.cells #[.int .i64 kd, .int .i64 a, .string ld, .string tx] 35)).grown hgrow b5 (fun j hj => (hown3.lt j hj).1))
        have hown4 : w3.ownsRow w.heap.size 35 4 v' (n + 1) (cellsL (D ++ [tokK s k])) := by
          rw [cellsL_snoc]
          have : cellsT (tokK s k) = [.int .i64 kd, .int .i64 a, .string ld, .string tx] := by
            rw [HK1.out, HK2.out, HK3.out, HK4.out]
            rfl
          rw [this]
          exact hown'
        have OW := Lib.hid hown4
        obtain ⟨q0, q1, q3⟩ := (⟨T3.out.cell 0, T3.out.cell 1, T3.out.cell 3⟩ : w3.cell? ⟨w2.heap.size, 0, none⟩ = some (.int .i64 kd) ∧ w3.cell? ⟨w2.heap.size, 1, none⟩ = some (.int .i64 a) ∧ w3.cell? ⟨w2.heap.size, 3, none⟩ = some (.string tx))
        clear hown' hown4 hown3 hgrow b3 b4 b5 C1
        by_cases hkd0 : kd = 0
        · have z2 : ((kd : Int) == 0) = true := by simp; omega
          have HG : Hid (lexR s = .good (D ++ [tokK s k])) := by
            show _ = _
            rw [HR.out, HF.out, lexF_end HER.out HF2.out (by rw [← HK1.out]; exact hkd0)]
            rfl
          clear hkd0
          go_wp2_with fail
          go_ret3
          refine ⟨B3.out, ?_⟩
          rw [HG.out]
          exact ⟨v', rfl, by rw [List.length_append, ← HD.out]; exact OW.out, by rw [List.length_append, ← HD.out]; have := HF2.out; show n + 1 ≤ 4000; omega⟩
        · have z2 : ((kd : Int) == 0) = false := by simp; omega
          have hend := endK_le s k hk
          have hts := tok_size s k hk
          rw [← HK2.out, ← HK4.out] at hts
          have hpos := tok_pos s k HER.out (by rw [← HK1.out]; exact hkd0)
          obtain ⟨k', hk'⟩ : ∃ k', k' = endK s k := ⟨_, rfl⟩
          have HG : Hid (lexF s (s.size + 1) 0 0 = (lexF s g k' (n + 1)).pre (D ++ [tokK s k])) := by
            show _ = _
            rw [HF.out, lexF_next HER.out HF2.out (by rw [← HK1.out]; exact hkd0), pre_pre, ← hk']
          rw [← hk'] at hts hend hpos
          have hlt : k < k' := by omega
          have hle : k' ≤ s.size := hend.2
          have EK : (a : Int) + (tx.size : Int) = (k' : Int) := by omega
          have hn1 : n + 1 ≤ 4000 := by have := HF2.out; omega
          clear hkd0 hend hts hpos hk'
          go_wp2_with fail
          go_roundg (s.size + 1 - k')
          case measure => omega
          case rel => exact ⟨g, k', n + 1, _, _, rfl, rfl, hle, by omega, by omega, hn1, by show _ = _; rw [List.length_append, ← HD.out]; rfl, HG.out, OW.out, B3.out⟩
    · have he' : e = .returned (.tuple #[tokV 0 (atK s k) ⟨#[]⟩ ⟨#[]⟩, .int .i64 (errK s k)]) := by
        rw [he, nextE_bad her]
      have HF2 := Lib.hid (HR.out.trans (HF.out.trans (congrArg (LexR.pre D) (lexF_err her))))
      obtain ⟨z, hz⟩ : ∃ z, z = errK s k := ⟨_, rfl⟩
      obtain ⟨a, ha⟩ : ∃ a, a = atK s k := ⟨_, rfl⟩
      rw [← hz] at he' HF2 her
      rw [← ha] at he' HF2
      have z1 : ((z : Int) == 0) = false := by simp; omega
      have z2 : ((z : Int) != 0) = true := by simp; omega
      have HB3 := Lib.hid (hnx2.alloc hnx2.size (.cells #[.int .i64 0, .int .i64 a, .string ⟨#[]⟩, .string ⟨#[]⟩] 35))
      subst he'
      clear hown hown2 hb2 he her hz ha ha1 ha2 R0 hltu hgt
      go_wp2_with fail
      go_quiet (fail)
      go_wp2_with fail
      go_ret3
      refine ⟨below_drewN HB3.out _, ?_⟩
      rw [HF2.out]
      rfl
end Go.Proofs.YtiabkkdeonepgaaGreatDoor
namespace Go.Proofs.YtiabkkdeonepgaaGreatDoor
open Go.RowKit
def TokAt (w : World) (A : Option Addr) (l : List Tok) : Prop := 0 < l.length → ∃ g, A = some ⟨g, 0, none⟩ ∧ g < w.heap.size ∧ ∀ i (h : i < l.length),
  w.cell? ⟨g, i * 4, none⟩ = some (.int .i64 l[i].kind) ∧ w.cell? ⟨g, i * 4 + 1, none⟩ = some (.int .i64 l[i].at_) ∧ w.cell? ⟨g, i * 4 + 2, none⟩ = some (.string l[i].lead) ∧ w.cell? ⟨g, i * 4 + 3, none⟩ = some (.string l[i].text)
theorem TokAt.below {w w' : World} {A : Option Addr} {l : List Tok} (h : TokAt w A l) (hb : Below w.heap.size w w') : TokAt w' A l := fun hn => by
  obtain ⟨g, e, hg, hc⟩ := h hn
  refine ⟨g, e, Nat.lt_of_lt_of_le hg hb.size, fun i hi => ?_⟩
  obtain ⟨c0, c1, c2, c3⟩ := hc i hi
  exact ⟨(hb.cell (p := ⟨g, i * 4, none⟩) hg).trans c0, (hb.cell (p := ⟨g, i * 4 + 1, none⟩) hg).trans c1, (hb.cell (p := ⟨g, i * 4 + 2, none⟩) hg).trans c2, (hb.cell (p := ⟨g, i * 4 + 3, none⟩) hg).trans c3⟩
theorem cellsL_get : ∀ (l : List Tok) (i : Nat) (h : i < l.length) (c : Nat), c < 4 → (cellsL l)[i * 4 + c]? = (cellsT l[i])[c]?
  | t :: l, 0, h, c, hc => by
    have : (cellsT t).length = 4 := rfl
    simp only [cellsL, List.flatMap_cons, Nat.zero_mul, Nat.zero_add, List.getElem_cons_zero]
    rw [List.getElem?_append_left (by omega)]
  | t :: l, i + 1, h, c, hc => by
    have h4 : (cellsT t).length = 4 := rfl
    have ih := cellsL_get l i (by simp at h; omega) c hc
    simp only [cellsL, List.flatMap_cons, List.getElem_cons_succ]
    rw [List.getElem?_append_right (by omega), h4, show (i + 1) * 4 + c - 4 = i * 4 + c by omega]
    exact ih
theorem TokAt.of_own {w : World} {base n cap : Nat} {A : Option Addr} {l : List Tok} (h : w.ownsRow base 35 4 (.slice A n cap) n (cellsL l)) (hn : n = l.length) : TokAt w A l ∧ (0 < l.length → l.length ≤ cap) := by
  subst hn
  constructor
  · intro h0
    have hlt := h.lt
    rcases h.2 with ⟨hv, hx⟩ | ⟨g, cap', cur, hv, h1, h2, h3⟩
    · omega
    · injection hv with e1 _ _
      subst e1
      have key : ∀ j u, (cellsL l)[j]? = some u → w.cell? ⟨g, j, none⟩ = some u := fun j u hu => by
        have := h.cells (g := g) rfl j u hu
        simp only [Addr.add] at this
        by_cases hj : j = 0 <;> simpa [hj] using this
      refine ⟨g, rfl, (hlt g rfl).2, fun i hi => ⟨?_, ?_, ?_, ?_⟩⟩
      · exact key _ _ (by rw [show i * 4 = i * 4 + 0 by omega, cellsL_get l i hi 0 (by omega)]; rfl)
      · exact key _ _ (by rw [cellsL_get l i hi 1 (by omega)]; rfl)
      · exact key _ _ (by rw [cellsL_get l i hi 2 (by omega)]; rfl)
      · exact key _ _ (by rw [cellsL_get l i hi 3 (by omega)]; rfl)
  · intro h0
    rcases h.2 with ⟨hv, hx⟩ | ⟨g, cap', cur, hv, h1, h2, h3, _⟩
    · omega
    · injection hv with _ _ e3
      subst e3
      exact h3
def Lext (s : ByteArray) (w : World) (e : Ending) (w' : World) : Prop :=
  Below w.heap.size w w' ∧ match lexR s with
    | .good l => ∃ A cap, e = .returned (.tuple #[.slice A l.length cap, .int .i64 0, .int .i64 0]) ∧ TokAt w' A l ∧ l.length ≤ 4000 ∧ (0 < l.length → l.length ≤ cap)
    | .bad er a => e = .returned (.tuple #[.slice none 0 0, .int .i64 er, .int .i64 a])
theorem lext_of {s : ByteArray} {w w' : World} {e : Ending} (h : Lexed s w e w') : Lext s w e w' := by
  refine ⟨h.1, ?_⟩
  have h2 := h.2
  cases hr : lexR s with
  | good l =>
    rw [hr] at h2
    obtain ⟨v, he, hown, hl⟩ := h2
    obtain ⟨A, cap, rfl⟩ := own_slice hown
    obtain ⟨g1, g2⟩ := TokAt.of_own hown rfl
    exact ⟨A, cap, he, g1, hl, g2⟩
  | bad er a =>
    rw [hr] at h2
    exact h2
set_option maxHeartbeats 2000000 in
theorem lext_any (s : ByteArray) (hs : (s.size : Int) ≤ 9223372036854775807) (w : World) (hT : Tabs w) (hE : Errs w) : Calls Tryz.prog 24 #[.string s] w (Lext s w) := by
  by_cases hb : s.size > 16384
  · have hz : (s.size : Int) > 16384 := by omega
    have HR : Hid (lexR s = .bad 5 16384) := by show _ = _; unfold lexR; rw [if_pos hb]
    clear hT hE hb
    go_enter Tryz.func24, Tryz.ntmps24
    go_wp2_with fail
    go_ret3
    refine ⟨Below.refl _ _, ?_⟩
    rw [HR.out]
    rfl
  · by_cases hg : badAt s.data.toList = none
    · exact (lex_any s (by omega) hg w hT hE).mono fun e w' h => lext_of h
    · have c := bad_any s w hT (by omega)
      have hn : 0 ≤ badI s.data.toList := by
        unfold badI
        split
        · rename_i h'; exact absurd h' hg
        · omega
      obtain ⟨b, hb'⟩ : ∃ b, b = badI s.data.toList := ⟨_, rfl⟩
      have HR : Hid (lexR s = .bad 20 b) := by show _ = _; unfold lexR; rw [if_neg hb, if_pos hg, hb']
      rw [← hb'] at c hn
      have C := Lib.hid c
      have hz : ¬ (s.size : Int) > 16384 := by omega
      have hbz : b ≥ 0 := hn
      clear c hT hE hb hg hn hb'
      go_enter Tryz.func24, Tryz.ntmps24
      go_wp2_with fail
      refine C.out.mono ?_
      rintro e w1 ⟨rfl, hb⟩
      have HB := Lib.hid hb
      clear hb
      go_wp2_with fail
      go_ret3
      refine ⟨HB.out, ?_⟩
      rw [HR.out]
      rfl
theorem ascii_good : ∀ l : List UInt8, (∀ b ∈ l, b.toNat < 128) → badAt l = none
  | [], _ => bad_nil
  | b :: t, h => by
    have h0 : b.toNat < 128 := h b (by simp)
    have hd : dec (b :: t) = (b.toNat, 1) := by
      unfold dec
      exact dN_ascii _ _ _ _ _ h0
    have hok : okc (b :: t) = true := by
      unfold okc
      rw [hd]
      simp
      omega
    rw [bad_step (by simp) hok, hd]
    show (badAt t).map _ = none
    rw [ascii_good t fun x hx => h x (by simp [hx])]
    rfl
end Go.Proofs.YtiabkkdeonepgaaGreatDoor
namespace Go.Proofs.YtiabkkdeonepgaaGreatDoor
open Go.RowKit
theorem Tabs.step {w w' : World} (h : Tabs w) (hb : Below w.heap.size w w') : Tabs w' := Utf8Tabs_below h hb
end Go.Proofs.YtiabkkdeonepgaaGreatDoor
