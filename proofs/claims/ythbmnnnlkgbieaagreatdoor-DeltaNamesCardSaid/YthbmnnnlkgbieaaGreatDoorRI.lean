/- Contracts: the document's answers whether a text is a name, and whether edits are the same. -/
import Derived.Test.YthbmnnnlkgbieaaGreatDoorTH
import Derived.Test.YthbmnnnlkgbieaaGreatDoorME1
import Derived.Laws.StructEq
import Derived.Lib.QuietBelow
import Derived.BigQuiet
namespace Go.Proofs.YthbmnnnlkgbieaaGreatDoor
open Go.RowKit Go.Op

theorem allW_take {s : ByteArray} {k : Nat} (h : k < s.size) (ha : allW s.data.toList = true) : wdN (s[k]'h).toNat = true := by
  unfold allW at ha
  rw [List.all_eq_true] at ha
  exact ha _ (by simp [ByteArray.getElem_eq_getElem_data])
theorem allW_not {s : ByteArray} {k : Nat} (h : k < s.size) (hw : wdN (s[k]'h).toNat = false) : allW s.data.toList = false := by
  cases ha : allW s.data.toList
  · rfl
  · rw [allW_take h ha] at hw; cases hw
theorem allW_yes {s : ByteArray} (h : ∀ k (hk : k < s.size), wdN (s[k]'hk).toNat = true) : allW s.data.toList = true := by
  unfold allW
  rw [List.all_eq_true]
  intro x hx
  obtain ⟨k, hk, rfl⟩ := List.getElem_of_mem hx
  exact h k (by simpa using hk)

set_option maxHeartbeats 4000000 in
theorem rname_any (s : ByteArray) (hs : s.size ≤ 9223372036854775807) (w : World) : Calls Tryz.prog 18 #[.string s] w fun e w' => e = .returned (.bool (rnameL s.data.toList)) ∧ Below w.heap.size w w' := by
  obtain ⟨N, hN⟩ : ∃ N, N = rnameL s.data.toList := ⟨_, rfl⟩
  rw [← hN]
  unfold rnameL at hN
  rw [len_list] at hN
  by_cases h0 : s.size = 0
  · have q : ((s.size : Int) == 0) = true := by rw [beq_iff_eq]; omega
    rw [decide_eq_true h0] at hN
    have HN := Lib.hid hN
    clear hN h0
    go_enter Tryz.func18, Tryz.ntmps18
    go_wp2_with fail
    go_ret
    exact ⟨rb (by rw [HN.out]; simp), Below.refl _ _⟩
  have q0 : ((s.size : Int) == 0) = false := by rw [beq_eq_false_iff_ne]; omega
  rw [decide_eq_false h0, Bool.false_or] at hN
  by_cases h40 : s.size > 40
  · have q : (s.size : Int) > 40 := by omega
    rw [decide_eq_true h40] at hN
    have HN := Lib.hid hN
    clear hN h0 h40
    go_enter Tryz.func18, Tryz.ntmps18
    go_wp2_with fail
    go_ret
    exact ⟨rb (by rw [HN.out]; simp), Below.refl _ _⟩
  have q1 : ¬ (s.size : Int) > 40 := by omega
  rw [decide_eq_false h40, Bool.false_or] at hN
  have c1 := rkey_any s w
  cases hk : keyL s.data.toList
  · rw [hk] at c1 hN
    rw [Bool.false_or] at hN
    have h00 : 0 < s.size := by omega
    rw [head_of s h00] at hN
    have c2 := fun w => rdigit_any (s[0]'h00).toNat w
    cases hd : digN (s[0]'h00).toNat
    · rw [hd] at c2 hN
      rw [Bool.not_false, Bool.true_and] at hN
      have HN := Lib.hid hN
      have C1 := Lib.hid c1
      have C2 := Lib.hid c2
      clear c1 c2 hN h0 h40 hk hd
      go_enter Tryz.func18, Tryz.ntmps18
      go_wp2_with fail
      refine C1.out.mono ?_
      rintro e w1 ⟨rfl, hb⟩
      have HB := Lib.hid hb
      clear hb
      go_wp2_with fail
      refine (C2.out _).mono ?_
      rintro e w2 ⟨rfl, rfl⟩
      go_wp2_with fail
      go_loopg [3] s.size (fun kx a wr => ∃ k : Nat, a = .int .i64 k ∧ k ≤ s.size ∧ s.size - k ≤ kx ∧ Hid (∀ j (hj : j < s.size), j < k → wdN (s[j]'hj).toNat = true) ∧ Hid (w1 = wr))
      case atStart => exact ⟨0, rfl, by omega, by omega, fun j hj h => by omega, rfl⟩
      case round =>
        obtain ⟨k, rfl, hk, hkx, HA, HW⟩ := hrel
        obtain rfl := HW.out
        by_cases hlt : k < s.size
        · have hlz : (k : Int) < (s.size : Int) := by omega
          have c3 := fun w => rletter_any (s[k]'hlt).toNat w
          have c4 := fun w => rdigit_any (s[k]'hlt).toNat w
          cases hl : letN (s[k]'hlt).toNat
          · rw [hl] at c3
            cases hg : digN (s[k]'hlt).toNat
            · rw [hg] at c4
              have HF : Hid (N = false) := by
                show _ = _
                rw [HN.out]
                exact allW_not hlt (by unfold wdN; rw [hl, hg]; rfl)
              have C3 := Lib.hid c3
              have C4 := Lib.hid c4
              clear c3 c4 hl hg
              go_wp2_with fail
              refine (C3.out _).mono ?_
              rintro e w2 ⟨rfl, rfl⟩
              go_wp2_with fail
              refine (C4.out _).mono ?_
              rintro e w2 ⟨rfl, rfl⟩
              go_wp2_with fail
              go_ret
              exact ⟨rb (by rw [HF.out]), HB.out⟩
            · rw [hg] at c4
              have HA2 : Hid (∀ j (hj : j < s.size), j < k + 1 → wdN (s[j]'hj).toNat = true) := by
                intro j hj h
                by_cases e : j = k
                · subst e; unfold wdN; rw [hg]; simp
                · exact HA.out j hj (by omega)
              have C3 := Lib.hid c3
              have C4 := Lib.hid c4
              clear c3 c4 hl hg
              go_wp2_with fail
              refine (C3.out _).mono ?_
              rintro e w2 ⟨rfl, rfl⟩
              go_wp2_with fail
              refine (C4.out _).mono ?_
              rintro e w2 ⟨rfl, rfl⟩
              go_wp2_with fail
              go_roundg (s.size - (k + 1))
              case measure => omega
              case rel => exact ⟨k + 1, by go_num, by omega, by omega, HA2, rfl⟩
          · rw [hl] at c3
            have HA2 : Hid (∀ j (hj : j < s.size), j < k + 1 → wdN (s[j]'hj).toNat = true) := by
              intro j hj h
              by_cases e : j = k
              · subst e; unfold wdN; rw [hl]; rfl
              · exact HA.out j hj (by omega)
            have C3 := Lib.hid c3
            clear c3 c4 hl
            go_wp2_with fail
            refine (C3.out _).mono ?_
            rintro e w2 ⟨rfl, rfl⟩
            go_wp2_with fail
            go_roundg (s.size - (k + 1))
            case measure => omega
            case rel => exact ⟨k + 1, by go_num, by omega, by omega, HA2, rfl⟩
        · obtain rfl : k = s.size := by omega
          have HF : Hid (N = true) := by
            show _ = _
            rw [HN.out]
            exact allW_yes fun j hj => HA.out j hj hj
          have hlz : ¬ (s.size : Int) < (s.size : Int) := by omega
          clear hlt
          go_wp2_with fail
          go_ret
          exact ⟨rb (by rw [HF.out]), HB.out⟩
    · rw [hd] at c2 hN
      have HN := Lib.hid hN
      have C1 := Lib.hid c1
      have C2 := Lib.hid c2
      clear c1 c2 hN h0 h40 hk hd
      go_enter Tryz.func18, Tryz.ntmps18
      go_wp2_with fail
      refine C1.out.mono ?_
      rintro e w1 ⟨rfl, hb⟩
      have HB := Lib.hid hb
      clear hb
      go_wp2_with fail
      refine (C2.out _).mono ?_
      rintro e w2 ⟨rfl, rfl⟩
      go_wp2_with fail
      go_ret
      exact ⟨rb (by rw [HN.out]; simp), HB.out⟩
  · rw [hk] at c1 hN
    have HN := Lib.hid hN
    have C1 := Lib.hid c1
    clear c1 hN h0 h40 hk
    go_enter Tryz.func18, Tryz.ntmps18
    go_wp2_with fail
    refine C1.out.mono ?_
    rintro e w1 ⟨rfl, hb⟩
    have HB := Lib.hid hb
    clear hb
    go_wp2_with fail
    go_ret
    exact ⟨rb (by rw [HN.out]; simp), HB.out⟩

theorem neq38 (a b : Int) (d : ByteArray) (w : World) : (binOp .neq 38 (.agg #[.int .i64 a, .int .i64 b, .string d]) (.agg #[.int .i64 a, .int .i64 b, .string d])).run Tryz.prog w = .ok (.bool false) w := by
  have u3 := Tryz.underlying3
  have a3 := Tryz.isAgg3
  have z3 := Tryz.sizeOf3
  have u9 := Tryz.underlying9
  have a9 := Tryz.isAgg9
  have z9 := Tryz.sizeOf9
  have hS : Tryz.prog.underlying 38 = some (.struct (Tryz.prog.fieldsOf 38)) := by kernel_rfl
  have hp : Tryz.prog.stoodInHeld 38 = false := by kernel_rfl
  rw [run_neq_struct, show (10000 : Nat) = 9999 + 1 from rfl, run_equalIn_agg w 9999 38 _ _ hS hp]
  simp only [Program.fieldsOf, Tryz.underlying38]
  go_simp

set_option maxHeartbeats 4000000 in
set_option maxRecDepth 100000 in
/-- The document's Same of the same edits. -/
theorem rsame_any (l : List Ed) (A B : Option Addr) (c1 c2 : Nat) (w : World) (hA : Eds w w.heap.size A l) (hB : Eds w w.heap.size B l) (hl : l.length ≤ 4000) (h1 : l.length ≤ c1) (h2 : l.length ≤ c2) :
    Calls Tryz.prog 19 #[.slice A l.length c1, .slice B l.length c2] w fun e w' => e = .returned (.bool true) ∧ Below w.heap.size w w' := by
  have HA := Lib.hid hA
  have HB := Lib.hid hB
  obtain ⟨N, hN⟩ : ∃ N, N = l.length := ⟨_, rfl⟩
  rw [← hN] at h1 h2 hl ⊢
  have HN := Lib.hid hN
  clear hA hB hN
  go_enter Tryz.func19, Tryz.ntmps19
  go_wp2_with fail
  go_loopg [5] N (fun kx x wr => ∃ i : Nat, x = .int .i64 i ∧ i ≤ N ∧ N - i ≤ kx ∧ Hid (Below w.heap.size w wr))
  case atStart => exact ⟨0, rfl, by omega, by omega, Below.refl _ _⟩
  case round =>
    obtain ⟨i, rfl, hi, hkx, HW⟩ := hrel
    by_cases hlt : i < N
    · have hlz : (i : Int) < (N : Int) := by omega
      have hil : i < l.length := by have := HN.out; omega
      obtain ⟨g, off, rfl, hg, hc⟩ := (HA.out.below HW.out) (by omega)
      obtain ⟨g', off', rfl, hg', hc'⟩ := (HB.out.below HW.out) (by omega)
      obtain ⟨q0, q1, q2⟩ := hc i hil
      obtain ⟨r0, r1, r2⟩ := hc' i hil
      have hq := fun w => neq38 l[i].f l[i].t l[i].x w
      generalize l[i].f = a at *
      generalize l[i].t = b at *
      generalize l[i].x = tx at *
      clear hc hc'
      go_wp2_with fail
      go_quiet (fail)
      go_wp2_with fail
      go_roundg (N - (i + 1))
      case measure => omega
      case rel => exact ⟨i + 1, by go_num, by omega, by omega, below_drewN HW.out _⟩
    · obtain rfl : i = N := by omega
      have hlz : ¬ (i : Int) < (i : Int) := by omega
      clear hlt
      go_wp2_with fail
      go_ret
      exact ⟨by simp, HW.out⟩
end Go.Proofs.YthbmnnnlkgbieaaGreatDoor
