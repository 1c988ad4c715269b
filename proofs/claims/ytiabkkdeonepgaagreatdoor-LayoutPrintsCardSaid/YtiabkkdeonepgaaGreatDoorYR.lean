import Derived.Test.YtiabkkdeonepgaaGreatDoorXC
import Derived.Test.YtiabkkdeonepgaaGreatDoorXE
import Derived.IntWalk
import Derived.Test.YtiabkkdeonepgaaGreatDoorYP
import Derived.KernelRfl
import Derived.Test.YtiabkkdeonepgaaGreatDoorXQ
set_option maxRecDepth 100000
namespace Go.Proofs.YtiabkkdeonepgaaGreatDoor
open Go.RowKit
namespace Pg
set_option maxHeartbeats 4000000 in
theorem comments_none (w : World) (A : Option Addr) (m cap : Nat) (l : List Tok) (hl : TokAt w A l) (hm : m = l.length) (h4 : m ≤ 4000) (hs : ∀ t ∈ l, t.lead.size ≤ 100 ∧ ∀ j (h : j < t.lead.size), (t.lead[j]'h).toNat ≠ 35) :
    Calls Tryz.prog 26 #[.slice A m cap] w fun e w' => e = .returned (.slice none 0 0) ∧ w = w' := by
  have HL := Lib.hid hl
  have HS := Lib.hid hs
  have HM := Lib.hid hm
  clear hl hs hm
  go_enter Tryz.func26, Tryz.ntmps26
  go_wp2_with fail
  go_loopg [3, 4] (m + 1) (fun kx s3 s4 wr => s3 = .slice none 0 0 ∧ ∃ i : Nat, s4 = .int .i64 i ∧ m - i ≤ kx ∧ i ≤ m ∧ Hid (w = wr))
  case atStart => exact ⟨rfl, 0, rfl, by omega, by omega, rfl⟩
  case round =>
    obtain ⟨rfl, i, rfl, hkx, hin, HW⟩ := hrel
    obtain rfl := HW.out
    by_cases hi : i < m
    · have hil : (i : Int) < (m : Int) := by omega
      have hi2 : i < l.length := by rw [← HM.out]; exact hi
      obtain ⟨g, hA, hg, hc⟩ := HL.out (by omega)
      obtain ⟨z0, z1, z2, z3⟩ := hc i hi2
      clear z0 z1 z3 hc
      obtain ⟨hsz, hb⟩ := HS.out _ (List.getElem_mem hi2)
      generalize (l[i]'hi2).lead = T at *
      subst hA
      clear hi2
      have HBB := Lib.hid hb
      clear hb
      go_wp2_with fail
      go_loopg [3, 6] (T.size + 1) (fun kx s3 s6 wr => s3 = .slice none 0 0 ∧ ∃ j : Nat, s6 = .int .i64 j ∧ T.size - j ≤ kx ∧ j ≤ T.size ∧ Hid (w = wr))
      case atStart => exact ⟨rfl, 0, rfl, by omega, by omega, rfl⟩
      case round =>
        obtain ⟨rfl, j, rfl, hkj, hjn, HW2⟩ := hrel
        obtain rfl := HW2.out
        by_cases hj : j < T.size
        · have hjl : (j : Int) < (T.size : Int) := by omega
          have hne : (((T[j]'hj).toNat : Int) != 35) = true := by rw [bne_iff_ne]; have := HBB.out j hj; omega
          go_wp2_with fail
          go_roundg (T.size - (j + 1))
          case measure => omega
          case rel => exact ⟨rfl, j + 1, by first | rfl | rw [show ((j + 1 : Nat) : Int) = (j : Int) + 1 by omega], by omega, by omega, rfl⟩
        · have hjl : ¬ (j : Int) < (T.size : Int) := by omega
          go_wp2_with fail
          go_roundg (m - (i + 1))
          case measure => omega
          case rel => exact ⟨rfl, i + 1, by first | rfl | rw [show ((i + 1 : Nat) : Int) = (i : Int) + 1 by omega], by omega, by omega, rfl⟩
    · have hil : ¬ (i : Int) < (m : Int) := by omega
      go_wp2_with fail
      (first | go_ret | go_ret2)
      exact ⟨rfl, rfl⟩
set_option maxHeartbeats 4000000 in
theorem same_texts (w : World) (A : Option Addr) (m cap G n : Nat) (l : List Tok) (ts : List ByteArray) (hl : TokAt w A l) (hm : m = l.length) (hmi : m = n + 1) (h4 : m ≤ 4000) (hs : ∀ t ∈ l, t.lead.size ≤ 100 ∧ ∀ j (h : j < t.lead.size), (t.lead[j]'h).toNat ≠ 35) (row : RowB w G 9 (ts.map Value.string).toArray) (hn : n = ts.length) (ht : ∀ i (h : i < ts.length) (h2 : i < l.length), (l[i]'h2).text = ts[i]) :
    Calls Tryz.prog 13 #[.slice A m cap, .slice (some ⟨G, 0, none⟩) n n] w fun e w' => e = .returned (.bool true) ∧ Below w.heap.size w w' := by
  have C := Lib.hid (comments_none w A m cap l hl hm h4 hs)
  have HL := Lib.hid hl
  have HM := Lib.hid hm
  have HR := Lib.hid row
  have HN := Lib.hid hn
  have HT := Lib.hid ht
  have e1 : ((m : Int) != (n : Int) + 1) = false := by rw [bne_eq_false_iff_eq]; omega
  have HMI := Lib.hid hmi
  have h5 : n ≤ 4000 := by omega
  have hnm : n ≤ m := by omega
  clear hl hs hm row hn ht hmi
  go_enter Tryz.func13, Tryz.ntmps13
  go_wp2_with fail
  refine C.out.mono ?_
  rintro e w1 ⟨rfl, rfl⟩
  go_wp2_with fail
  go_loopg [20] (n + 1) (fun kx s20 wr => ∃ i : Nat, s20 = .int .i64 i ∧ n - i ≤ kx ∧ i ≤ n ∧ Hid (Below w.heap.size w wr))
  case atStart => exact ⟨0, rfl, by omega, by omega, Below.refl _ _⟩
  case round =>
    obtain ⟨i, rfl, hkx, hin, HB⟩ := hrel
    by_cases hi : i < n
    · have hil : (i : Int) < (n : Int) := by omega
      have him : (i : Int) < (m : Int) := by omega
      have hi2 : i < l.length := by rw [← HM.out]; omega
      have hi3 : i < ts.length := by rw [← HN.out]; exact hi
      obtain ⟨g, hA, hg, hc⟩ := (HL.out.below HB.out) (by omega)
      obtain ⟨z0, z1, z2, z3⟩ := hc i hi2
      clear z0 z1 z2 hc
      rw [HT.out i hi3 hi2] at z3
      have R2 := Lib.hid (HR.out.below HB.out HR.out.lt)
      have zc : wr.cell? ⟨G, i, none⟩ = some (.string ts[i]) := by rw [R2.out.cell]; simp [hi3]
      generalize ts[i] = T at *
      subst hA
      clear hi2 hi3
      go_wp2_with fail
      go_quiet (fail)
      go_wp2_with fail
      go_roundg (n - (i + 1))
      case measure => omega
      case rel => exact ⟨i + 1, by first | rfl | rw [show ((i + 1 : Nat) : Int) = (i : Int) + 1 by omega], by omega, by omega, below_drewN HB.out _⟩
    · have hil : ¬ (i : Int) < (n : Int) := by omega
      go_wp2_with fail
      (first | go_ret | go_ret2)
      exact ⟨rfl, HB.out⟩
end Pg
end Go.Proofs.YtiabkkdeonepgaaGreatDoor
namespace Go.Proofs.YtiabkkdeonepgaaGreatDoor
open Go.RowKit
namespace Pg
open Ps
def awS : ByteArray := ⟨#[100, 101, 102, 32, 102, 40, 41, 123, 112, 114, 105, 110, 116, 32, 49, 59, 125]⟩
def awT : List Tok := [⟨2, 0, ⟨#[]⟩, ⟨#[100, 101, 102]⟩⟩, ⟨1, 4, ⟨#[32]⟩, ⟨#[102]⟩⟩, ⟨5, 5, ⟨#[]⟩, ⟨#[40]⟩⟩, ⟨5, 6, ⟨#[]⟩, ⟨#[41]⟩⟩, ⟨5, 7, ⟨#[]⟩, ⟨#[123]⟩⟩, ⟨2, 8, ⟨#[]⟩, ⟨#[112, 114, 105, 110, 116]⟩⟩, ⟨3, 14, ⟨#[32]⟩, ⟨#[49]⟩⟩, ⟨5, 15, ⟨#[]⟩, ⟨#[59]⟩⟩, ⟨5, 16, ⟨#[]⟩, ⟨#[125]⟩⟩, ⟨0, 17, ⟨#[]⟩, ⟨#[]⟩⟩]
def awC : List Tok := [⟨2, 0, ⟨#[]⟩, ⟨#[100, 101, 102]⟩⟩, ⟨1, 4, ⟨#[32]⟩, ⟨#[102]⟩⟩, ⟨5, 5, ⟨#[]⟩, ⟨#[40]⟩⟩, ⟨5, 6, ⟨#[]⟩, ⟨#[41]⟩⟩, ⟨5, 8, ⟨#[32]⟩, ⟨#[123]⟩⟩, ⟨2, 12, ⟨#[10, 32, 32]⟩, ⟨#[112, 114, 105, 110, 116]⟩⟩, ⟨3, 18, ⟨#[32]⟩, ⟨#[49]⟩⟩, ⟨5, 19, ⟨#[]⟩, ⟨#[59]⟩⟩, ⟨5, 21, ⟨#[10]⟩, ⟨#[125]⟩⟩, ⟨0, 23, ⟨#[10]⟩, ⟨#[]⟩⟩]
def awH : Hd := ⟨1, 0, 9, e0, 0⟩
def awK : Fo := (.cons ⟨3, 0, 9, ⟨#[102]⟩, 1⟩ (.cons ⟨4, 2, 4, e0, 0⟩ .nil (.cons ⟨0, 0, 0, e0, 0⟩ .nil (.cons ⟨6, 4, 9, e0, 0⟩ (.cons ⟨11, 5, 8, e0, 0⟩ (.cons ⟨21, 6, 7, ⟨#[49]⟩, 6⟩ .nil .nil) .nil) .nil))) .nil)
def awL : List ByteArray := [⟨#[100, 101, 102]⟩, ⟨#[102]⟩, ⟨#[40]⟩, ⟨#[41]⟩, ⟨#[123]⟩, ⟨#[112, 114, 105, 110, 116]⟩, ⟨#[49]⟩, ⟨#[59]⟩, ⟨#[125]⟩]
theorem aw_lex : lexR awS = .good awT := by kernel_rfl
theorem aw_parse : parseM awT = .ok awH awK := by kernel_rfl
theorem aw_of : ofM awS = .ok awT awH awK := by
  unfold ofM
  rw [aw_lex]
  dsimp only
  rw [aw_parse]
theorem aw_len : awK.len = 1 ∧ awK.wide = 3 := ⟨by kernel_rfl, by kernel_rfl⟩
theorem aw_file : fileB awK = [100, 101, 102, 32, 102, 40, 41, 32, 123, 10, 32, 32, 112, 114, 105, 110, 116, 32, 49, 59, 10, 125, 10] := by kernel_rfl
theorem aw_again : lexR ⟨#[100, 101, 102, 32, 102, 40, 41, 32, 123, 10, 32, 32, 112, 114, 105, 110, 116, 32, 49, 59, 10, 125, 10]⟩ = .good awC := by kernel_rfl
theorem aw_lead : ∀ t ∈ awC, t.lead.size ≤ 100 ∧ ∀ j (h : j < t.lead.size), (t.lead[j]'h).toNat ≠ 35 := by
  decide
theorem aw_text : ∀ i (h : i < awL.length) (h2 : i < awC.length), (awC[i]'h2).text = awL[i] := by
  intro i h h2
  have hi : i < 9 := h
  rcases (by omega : i = 0 ∨ i = 1 ∨ i = 2 ∨ i = 3 ∨ i = 4 ∨ i = 5 ∨ i = 6 ∨ i = 7 ∨ i = 8) with rfl | rfl | rfl | rfl | rfl | rfl | rfl | rfl | rfl <;> rfl
set_option maxHeartbeats 4000000 in
theorem awake_any (w : World) (hT : Tabs w) (hE : Errs w) : Calls Tryz.prog 5 #[] w fun e w' => e = .returned (.bool true) ∧ Below w.heap.size w w' := by
  have CO := Lib.hid (of_any awS (by decide) w hT hE)
  have HT := Lib.hid hT
  have HE := Lib.hid hE
  clear hT hE
  go_enter Tryz.func5, Tryz.ntmps5
  go_wp2_with fail
  refine CO.out.mono ?_
  rintro e w1 ⟨hb, ho⟩
  rw [aw_of] at ho
  obtain ⟨A, c, A1, c1, rfl, _, _, hk⟩ := ho
  have hbz := hb.alloc hb.size (.cells (ncc awH A1 awK.len c1) 25)
  have B1 := Lib.hid hbz
  have hk2 := KV.keep (w' := w1.alloc (.cells (ncc awH A1 awK.len c1) 25)) (Q := fun g => g < (w1.alloc (.cells (ncc awH A1 awK.len c1) 25)).heap.size) (by simp) (fun g _ hl => ⟨Below.heap_alloc _ _ _ hl, by simp; omega⟩) hk
  have P := print_of aw_of
  have CP := print_any (w1.alloc (.cells (ncc awH A1 awK.len c1) 25)) 1 0 9 e0 0 awK A1 c1 (HT.out.step hbz) (HE.out.below hbz) hk2 P.1 rfl P.2.2.1 (by rw [aw_len.1]; decide) (by rw [aw_len.2]; decide) (by rw [aw_file]; decide)
  rw [aw_file] at CP
  have CP := Lib.hid CP
  clear hb hk hk2 hbz P
  unfold awH at *
  dsimp only at *
  go_wp2_with fail
  refine CP.out.mono ?_
  rintro e w2 ⟨rfl, hb⟩
  have B2 := Lib.hid (B1.out.trans (hb.mono B1.out.size))
  clear hb CP CO
  have CL := Lib.hid (rlext_any ⟨#[100, 101, 102, 32, 102, 40, 41, 32, 123, 10, 32, 32, 112, 114, 105, 110, 116, 32, 49, 59, 10, 125, 10]⟩ (by decide) w2)
  go_wp2_with fail
  refine CL.out.mono ?_
  rintro e w3 ⟨hb, ho⟩
  rw [aw_again] at ho
  obtain ⟨A3, c3, rfl, ht, _, hc3⟩ := ho
  have B3 := Lib.hid (B2.out.trans (hb.mono B2.out.size))
  have CS := same_texts (w3.alloc (.cells #[.string ⟨#[100, 101, 102]⟩, .string ⟨#[102]⟩, .string ⟨#[40]⟩, .string ⟨#[41]⟩, .string ⟨#[123]⟩, .string ⟨#[112, 114, 105, 110, 116]⟩, .string ⟨#[49]⟩, .string ⟨#[59]⟩, .string ⟨#[125]⟩] 9)) A3 10 c3 w3.heap.size 9 awC awL (ht.below (bel1 w3 _)) rfl rfl (by decide) aw_lead (RowB.new w3 9 _) rfl aw_text
  have CS := Lib.hid CS
  have hlen : awC.length = 10 := rfl
  rw [hlen]
  clear hb ht hc3 hlen CL
  go_wp2_with fail
  refine CS.out.mono ?_
  rintro e w4 ⟨rfl, hb⟩
  have B4 := Lib.hid ((B3.out.alloc B3.out.size (.cells #[.string ⟨#[100, 101, 102]⟩, .string ⟨#[102]⟩, .string ⟨#[40]⟩, .string ⟨#[41]⟩, .string ⟨#[123]⟩, .string ⟨#[112, 114, 105, 110, 116]⟩, .string ⟨#[49]⟩, .string ⟨#[59]⟩, .string ⟨#[125]⟩] 9)).trans (hb.mono (by have := B3.out.size; simp; omega)))
  clear hb CS
  go_wp2_with fail
  (first | go_ret | go_ret2)
  exact ⟨rfl, B4.out⟩
end Pg
end Go.Proofs.YtiabkkdeonepgaaGreatDoor
