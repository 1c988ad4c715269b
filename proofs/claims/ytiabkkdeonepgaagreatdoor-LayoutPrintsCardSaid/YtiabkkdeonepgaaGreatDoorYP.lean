import Derived.Test.YtiabkkdeonepgaaGreatDoorYT
import Derived.Test.YtiabkkdeonepgaaGreatDoorXZ
import Derived.Test.YtiabkkdeonepgaaGreatDoorXW
import Derived.Test.YtiabkkdeonepgaaGreatDoorXU
set_option maxRecDepth 100000
set_option maxHeartbeats 8000000
namespace Go.Proofs.YtiabkkdeonepgaaGreatDoor
open Go.RowKit
namespace Pg
open Ps
theorem isright_step (n : Nat) (IH : ∀ (B : Nat) (w : World) (h : Hd) (k : Fo) (A : Option Addr) (cap : Nat), B ≤ w.heap.size → Tabs w → Errs w → KV w (fun g => g < B) k A cap → okF (.one h k) → k.deep < n → k.len ≤ 1000001 → k.wide ≤ 1000001 → Calls Tryz.prog 17 #[nvv h A k.len cap] w fun e w' => e = .returned (.bool true) ∧ Below w.heap.size w w')
    (B : Nat) (w : World) (x1 x2 x3 : Nat) (x4 : ByteArray) (x5 : Nat) (k : Fo) (A : Option Addr) (cap : Nat) (hB : B ≤ w.heap.size) (hT : Tabs w) (hE : Errs w) (hk : KV w (fun g => g < B) k A cap) (ho : okF (.one ⟨x1, x2, x3, x4, x5⟩ k)) (hd : k.deep ≤ n) (hl : k.len ≤ 1000001) (hwd : k.wide ≤ 1000001) :
    Calls Tryz.prog 17 #[.agg #[.int .i64 x1, .int .i64 x2, .int .i64 x3, .string x4, .int .i64 x5, .slice A k.len cap]] w fun e w' => e = .returned (.bool true) ∧ Below w.heap.size w w' := by
  have R0 := Lib.hid (RowB.new w 25 #[.int .i64 x1, .int .i64 x2, .int .i64 x3, .string x4, .int .i64 x5, .slice A k.len cap])
  have b0 : Below w.heap.size w (w.alloc (.cells #[.int .i64 x1, .int .i64 x2, .int .i64 x3, .string x4, .int .i64 x5, .slice A k.len cap] 25)) := bel1 w _
  have B0 := Lib.hid b0
  have HT := Lib.hid (hT.step b0)
  have HE := Lib.hid (hE.below b0)
  have HK := Lib.hid (hk.below b0)
  have HW : Hid (wrd ⟨x1, x2, x3, x4, x5⟩) := ho.1.1
  have HS : Hid (shp x1 k.kinds) := ho.1.2
  have HOK : Hid (okF k) := ho.2.1
  have HIH := Lib.hid IH
  have HBS := Lib.hid hB
  clear hT hE hk ho IH b0 hB
  go_enter Tryz.func17, Tryz.ntmps17
  have rc := R0.out.cell
  have C := Lib.hid (hasword_any (w.alloc (.cells #[.int .i64 x1, .int .i64 x2, .int .i64 x3, .string x4, .int .i64 x5, .slice A k.len cap] 25)) x1 x2 x3 x4 x5 A k.len cap HT.out HE.out HW.out)
  go_wp2_with fail
  refine C.out.mono ?_
  rintro e w1 ⟨rfl, h1⟩
  have B1 : Hid (Below w.heap.size w w1) := B0.out.trans (h1.mono B0.out.size)
  have R1 := Lib.hid (R0.out.below h1 R0.out.lt)
  have K1 := Lib.hid (HK.out.below h1)
  have T1 := Lib.hid (HT.out.step h1)
  have E1 := Lib.hid (HE.out.below h1)
  have s1 : w.heap.size ≤ w1.heap.size := B1.out.size
  clear h1 C rc
  have rc := R1.out.cell
  have C := Lib.hid (kids_any B w1 ⟨x1, x2, x3, x4, x5⟩ k A cap (Nat.le_trans HBS.out s1) K1.out HS.out hl)
  go_wp2_with fail
  refine C.out.mono ?_
  rintro e w2 ⟨rfl, h2⟩
  have B2 : Hid (Below w.heap.size w w2) := B1.out.trans (h2.mono B1.out.size)
  have R2 := Lib.hid (R1.out.below h2 R1.out.lt)
  have K2 := Lib.hid (K1.out.below h2)
  have T2 := Lib.hid (T1.out.step h2)
  have E2 := Lib.hid (E1.out.below h2)
  clear h2 C rc
  have rc := R2.out.cell
  have P : PartV B (.func (.func 17) #[] #[]) (fun h kk => okF (.one h kk) ∧ kk.deep < n ∧ kk.len ≤ 1000001 ∧ kk.wide ≤ 1000001) true w2 :=
    ⟨17, #[], rfl, fun _ _ => rfl, fun w' h kk A2 c2 hb hk2 hq => HIH.out B w' h kk A2 c2 (Nat.le_trans HBS.out (Nat.le_trans B2.out.size hb.size)) (T2.out.step hb) (E2.out.below hb) hk2 hq.1 hq.2.1 hq.2.2.1 hq.2.2.2⟩
  have C := Lib.hid (each_any B w2 (.func (.func 17) #[] #[]) _ k A cap P K2.out (fun i h kk r e => by
    obtain ⟨c1, c2, c3⟩ := Fo.drop_bounds k i _ _ _ e
    exact ⟨okF.drop i HOK.out e, by omega, by omega, by omega⟩) hl)
  clear P
  go_wp2_with fail
  refine C.out.mono ?_
  rintro e w3 ⟨rfl, h3⟩
  have B3 : Hid (Below w.heap.size w w3) := B2.out.trans (h3.mono B2.out.size)
  clear h3 C rc
  go_wp2_with fail
  (first | go_ret | go_ret2)
  exact ⟨rfl, B3.out⟩
theorem isright_all : ∀ (n : Nat) (B : Nat) (w : World) (h : Hd) (k : Fo) (A : Option Addr) (cap : Nat), B ≤ w.heap.size → Tabs w → Errs w → KV w (fun g => g < B) k A cap → okF (.one h k) → k.deep < n → k.len ≤ 1000001 → k.wide ≤ 1000001 → Calls Tryz.prog 17 #[nvv h A k.len cap] w fun e w' => e = .returned (.bool true) ∧ Below w.heap.size w w'
  | 0, _, _, _, _, _, _, _, _, _, _, _, hd, _, _ => absurd hd (Nat.not_lt_zero _)
  | n + 1, B, w, h, k, A, cap, hB, hT, hE, hk, ho, hd, hl, hw => isright_step n (isright_all n) B w h.kind h.fro h.til h.word h.at_ k A cap hB hT hE hk ho (by omega) hl hw
theorem right_any (B : Nat) (w : World) (x1 x2 x3 : Nat) (x4 : ByteArray) (x5 : Nat) (k : Fo) (A : Option Addr) (cap : Nat) (hB : B ≤ w.heap.size) (hT : Tabs w) (hE : Errs w) (hk : KV w (fun g => g < B) k A cap) (ho : okF (.one ⟨x1, x2, x3, x4, x5⟩ k)) (hx : x1 = 1) (hd : k.deep ≤ 59) (hl : k.len ≤ 1000001) (hwd : k.wide ≤ 1000001) :
    Calls Tryz.prog 7 #[.agg #[.int .i64 x1, .int .i64 x2, .int .i64 x3, .string x4, .int .i64 x5, .slice A k.len cap]] w fun e w' => e = .returned (.bool true) ∧ Below w.heap.size w w' := by
  have R0 := Lib.hid (RowB.new w 25 #[.int .i64 x1, .int .i64 x2, .int .i64 x3, .string x4, .int .i64 x5, .slice A k.len cap])
  have b0 : Below w.heap.size w (w.alloc (.cells #[.int .i64 x1, .int .i64 x2, .int .i64 x3, .string x4, .int .i64 x5, .slice A k.len cap] 25)) := bel1 w _
  have B0 := Lib.hid b0
  have HT := Lib.hid (hT.step b0)
  have HE := Lib.hid (hE.below b0)
  have HK := Lib.hid (hk.below b0)
  have HO := Lib.hid ho
  have HBS := Lib.hid hB
  have t1 : ((x1 : Int) == 1) = true := by rw [beq_iff_eq]; omega
  have hd2 : (((1 + k.deep : Nat) : Int)) ≤ 60 := by omega
  clear hT hE hk ho b0 hB hx
  have rc := R0.out.cell
  have C := Lib.hid (depth_any 59 ⟨x1, x2, x3, x4, x5⟩ k A cap (fun g => g < B) (w.alloc (.cells #[.int .i64 x1, .int .i64 x2, .int .i64 x3, .string x4, .int .i64 x5, .slice A k.len cap] 25)) hd (by omega) hl hwd HK.out)
  go_enter Tryz.func7, Tryz.ntmps7
  go_wp2_with fail
  refine C.out.mono ?_
  rintro e w1 ⟨rfl, h1⟩
  have B1 : Hid (Below w.heap.size w w1) := B0.out.trans (h1.mono B0.out.size)
  have R1 := Lib.hid (R0.out.below h1 R0.out.lt)
  have K1 := Lib.hid (HK.out.below h1)
  have T1 := Lib.hid (HT.out.step h1)
  have E1 := Lib.hid (HE.out.below h1)
  have s1 : w.heap.size ≤ w1.heap.size := B1.out.size
  clear h1 C rc
  have rc := R1.out.cell
  have C := Lib.hid (isright_all 60 B w1 ⟨x1, x2, x3, x4, x5⟩ k A cap (Nat.le_trans HBS.out s1) T1.out E1.out K1.out HO.out (by omega) hl hwd)
  go_wp2_with fail
  refine C.out.mono ?_
  rintro e w2 ⟨rfl, h2⟩
  have B2 : Hid (Below w.heap.size w w2) := B1.out.trans (h2.mono B1.out.size)
  clear h2 C rc
  go_wp2_with fail
  (first | go_ret | go_ret2)
  exact ⟨rfl, B2.out⟩
end Pg
end Go.Proofs.YtiabkkdeonepgaaGreatDoor
namespace Go.Proofs.YtiabkkdeonepgaaGreatDoor
open Go.RowKit
namespace Pg
open Ps
theorem Prn.new (B : Nat) (w : World) (hB : B ≤ w.heap.size) : Prn B w.heap.size [] 0 (w.alloc (.cells #[.pointer none, .slice none 0 0, .int .i64 0] 51)) := by
  refine .inl ⟨hB, .slice none 0 0, ?_, ⟨rfl, .inl ⟨rfl, rfl⟩⟩, by simp [Value.ownBlock]⟩
  exact heap_alloc_new w _
theorem print_any (w : World) (x1 x2 x3 : Nat) (x4 : ByteArray) (x5 : Nat) (k : Fo) (A : Option Addr) (cap : Nat) (hT : Tabs w) (hE : Errs w) (hk : KV w (fun g => g < w.heap.size) k A cap) (ho : okF (.one ⟨x1, x2, x3, x4, x5⟩ k)) (hx : x1 = 1) (hd : k.deep ≤ 59) (hl : k.len ≤ 1000001) (hwd : k.wide ≤ 1000001) (hlim : (fileB k).length ≤ lim) :
    Calls Tryz.prog 6 #[.agg #[.int .i64 x1, .int .i64 x2, .int .i64 x3, .string x4, .int .i64 x5, .slice A k.len cap]] w fun e w' => e = .returned (.tuple #[.string ⟨(fileB k).toArray⟩, .int .i64 0]) ∧ Below w.heap.size w w' := by
  have R0 := Lib.hid (RowB.new w 25 #[.int .i64 x1, .int .i64 x2, .int .i64 x3, .string x4, .int .i64 x5, .slice A k.len cap])
  have b0 : Below w.heap.size w (w.alloc (.cells #[.int .i64 x1, .int .i64 x2, .int .i64 x3, .string x4, .int .i64 x5, .slice A k.len cap] 25)) := bel1 w _
  have B0 := Lib.hid b0
  have HK := Lib.hid (hk.below b0)
  have HO : Hid (okF k) := ho.2.1
  have HS : Hid (∀ x ∈ k.kinds, x = 2 ∨ x = 3) := by
    have : shp x1 k.kinds := ho.1.2
    rw [hx] at this
    exact this
  have BK : Hid (Bd 0 k) := ⟨by omega, hl, hwd⟩
  have C := Lib.hid (right_any w.heap.size (w.alloc (.cells #[.int .i64 x1, .int .i64 x2, .int .i64 x3, .string x4, .int .i64 x5, .slice A k.len cap] 25)) x1 x2 x3 x4 x5 k A cap b0.size (hT.step b0) (hE.below b0) HK.out ho hx hd hl hwd)
  obtain ⟨T, hTx⟩ : ∃ T, T = fileB k := ⟨_, rfl⟩
  rw [← hTx] at hlim ⊢
  have HTx := Lib.hid hTx
  clear hT hE hk ho b0 hx hTx
  go_enter Tryz.func6, Tryz.ntmps6
  have rc := R0.out.cell
  go_wp2_with fail
  refine C.out.mono ?_
  rintro e w1 ⟨rfl, h1⟩
  have B1 : Hid (Below w.heap.size w w1) := B0.out.trans (h1.mono B0.out.size)
  have R1 := Lib.hid (R0.out.below h1 R0.out.lt)
  have K1 := Lib.hid (HK.out.below h1)
  have s1 : w.heap.size ≤ w1.heap.size := B1.out.size
  clear h1 C rc
  have RP := Lib.hid (R1.out.alloc (.cells #[.pointer none, .slice none 0 0, .int .i64 0] 51))
  have rp := RP.out.cell
  have KP := Lib.hid (K1.out.below (bel1 w1 (.cells #[.pointer none, .slice none 0 0, .int .i64 0] 51)))
  have PP := Lib.hid (Prn.new w.heap.size w1 s1)
  have C := Lib.hid (file_w w.heap.size w1.heap.size [] (w1.alloc (.cells #[.pointer none, .slice none 0 0, .int .i64 0] 51)) x1 x2 x3 x4 x5 k A cap PP.out (by simp; omega) KP.out HO.out HS.out BK.out (by rw [← HTx.out]; simpa using hlim))
  have rc := R1.out.cell
  go_wp2_with fail
  refine C.out.mono ?_
  rintro e w2 hw
  obtain ⟨rfl, hp, hb, _⟩ := hw
  have B2 : Hid (Below w.heap.size w w2) := (B1.out.alloc B1.out.size _).trans hb
  rw [← HTx.out, List.nil_append] at hp
  have C2 := Lib.hid (string_w w.heap.size w1.heap.size 0 T w2 hp B2.out.size)
  clear C hp hb rc rp
  go_wp2_with fail
  refine C2.out.mono ?_
  rintro e w3 ⟨rfl, h3⟩
  have B3 : Hid (Below w.heap.size w w3) := B2.out.trans h3
  clear h3 C2
  go_wp2_with fail
  (first | go_ret | go_ret2 | go_ret3)
  exact ⟨rfl, B3.out⟩
end Pg
end Go.Proofs.YtiabkkdeonepgaaGreatDoor
namespace Go.Proofs.YtiabkkdeonepgaaGreatDoor
open Go.RowKit
namespace Pg
open Ps
theorem equalf_any (n : Nat) (IH : ∀ (w : World) (h : Hd) (k : Fo) (A A' : Option Addr) (cap cap' : Nat) (P P' : Nat → Prop), KV w P k A cap → KV w P' k A' cap' → k.deep < n → k.len ≤ 1000001 → k.wide ≤ 1000001 → Calls Tryz.prog 9 #[nvv h A k.len cap, nvv h A' k.len cap'] w fun e w' => e = .returned (.bool true) ∧ Below w.heap.size w w')
    (w : World) (k : Fo) (A A' : Option Addr) (cap cap' : Nat) (P P' : Nat → Prop) (hk : KV w P k A cap) (hk' : KV w P' k A' cap') (hd : k.deep ≤ n) (hl : k.len ≤ 1000001) (hwd : k.wide ≤ 1000001) :
    Calls Tryz.prog 18 #[.slice A k.len cap, .slice A' k.len cap', .func (.func 9) #[] #[]] w fun e w' => e = .returned (.bool true) ∧ Below w.heap.size w w' := by
  have HK := Lib.hid hk
  have HK' := Lib.hid hk'
  have HI := Lib.hid IH
  obtain ⟨m, hm⟩ : ∃ m, m = k.len := ⟨_, rfl⟩
  have HN := Lib.hid hm
  have hm1 : m ≤ 1000001 := by omega
  rw [← hm]
  clear hk hk' IH hm hl
  go_enter Tryz.func18, Tryz.ntmps18
  go_wp2_with fail
  go_loopg [17] (m + 1) (fun kx s17 wr => ∃ i : Nat, s17 = .int .i64 i ∧ m - i ≤ kx ∧ i ≤ m ∧ Hid (Below w.heap.size w wr))
  case atStart => exact ⟨0, rfl, by omega, by omega, Below.refl _ _⟩
  case round =>
    obtain ⟨i, rfl, hkx, hin, HB⟩ := hrel
    by_cases hi : i < m
    · have hil : (i : Int) < (m : Int) := by omega
      obtain ⟨h', kk, e⟩ := Fo.drop_cons k i (by rw [← HN.out]; exact hi)
      obtain ⟨g, o, A2, c2, hA, hP, hg, hkk, z0, z1, z2, z3, z4, z5⟩ := KV.nth (HK.out.below HB.out) e
      have q1 : Below wr.heap.size wr (wr.alloc (.cells #[.int .i64 h'.kind, .int .i64 h'.fro, .int .i64 h'.til, .string h'.word, .int .i64 h'.at_, .slice A2 kk.len c2] 25)) := bel1 wr _
      obtain ⟨g', o', A3, c3, hA', hP', hg', hkk', u0, u1, u2, u3, u4, u5⟩ := KV.nth ((HK'.out.below HB.out).below q1) e
      obtain ⟨b1, b2, b3⟩ := Fo.drop_bounds k i _ _ _ e
      obtain ⟨j, hj⟩ : ∃ j, j = i + 1 := ⟨_, rfl⟩
      have q2 : Below (wr.alloc (.cells #[.int .i64 h'.kind, .int .i64 h'.fro, .int .i64 h'.til, .string h'.word, .int .i64 h'.at_, .slice A2 kk.len c2] 25)).heap.size (wr.alloc (.cells #[.int .i64 h'.kind, .int .i64 h'.fro, .int .i64 h'.til, .string h'.word, .int .i64 h'.at_, .slice A2 kk.len c2] 25)) _ := bel1 _ (.cells #[.int .i64 h'.kind, .int .i64 h'.fro, .int .i64 h'.til, .string h'.word, .int .i64 h'.at_, .slice A3 kk.len c3] 25)
      have CC := Lib.hid (HI.out _ h' kk A2 A3 c2 c3 P P' ((hkk.below q1).below q2) (hkk'.below q2) (by omega) (by omega) (by omega))
      have HB2 := Lib.hid (HB.out.trans ((q1.trans (q2.mono q1.size)).mono HB.out.size))
      clear q1 q2
      obtain ⟨y1, y2, y3, y4, y5⟩ := h'
      have r1 := ((RowB.new wr 25 #[.int .i64 y1, .int .i64 y2, .int .i64 y3, .string y4, .int .i64 y5, .slice A2 kk.len c2]).alloc (.cells #[.int .i64 y1, .int .i64 y2, .int .i64 y3, .string y4, .int .i64 y5, .slice A3 kk.len c3] 25)).cell
      have r2 := (RowB.new (wr.alloc (.cells #[.int .i64 y1, .int .i64 y2, .int .i64 y3, .string y4, .int .i64 y5, .slice A2 kk.len c2] 25)) 25 #[.int .i64 y1, .int .i64 y2, .int .i64 y3, .string y4, .int .i64 y5, .slice A3 kk.len c3]).cell
      subst hA hA'
      clear hkk hkk' e b1 b2 b3
      go_wp2_with fail
      refine CC.out.mono ?_
      rintro e w2 ⟨rfl, h2⟩
      have HB3 : Hid (Below w.heap.size w w2) := HB2.out.trans (h2.mono HB2.out.size)
      clear h2 CC r1 r2 z0 z1 z2 z3 z4 z5 u0 u1 u2 u3 u4 u5
      go_wp2_with fail
      go_roundg (m - j)
      case measure => omega
      case rel => exact ⟨j, by rw [hj]; go_num, by omega, by omega, HB3.out⟩
    · have hil : ¬ (i : Int) < (m : Int) := by omega
      go_wp2_with fail
      (first | go_ret | go_ret2)
      exact ⟨rfl, HB.out⟩
theorem psame_step (n : Nat) (IH : ∀ (w : World) (h : Hd) (k : Fo) (A A' : Option Addr) (cap cap' : Nat) (P P' : Nat → Prop), KV w P k A cap → KV w P' k A' cap' → k.deep < n → k.len ≤ 1000001 → k.wide ≤ 1000001 → Calls Tryz.prog 9 #[nvv h A k.len cap, nvv h A' k.len cap'] w fun e w' => e = .returned (.bool true) ∧ Below w.heap.size w w')
    (w : World) (x1 x2 x3 : Nat) (x4 : ByteArray) (x5 : Nat) (k : Fo) (A A' : Option Addr) (cap cap' : Nat) (P P' : Nat → Prop) (hk : KV w P k A cap) (hk' : KV w P' k A' cap') (hd : k.deep ≤ n) (hl : k.len ≤ 1000001) (hwd : k.wide ≤ 1000001) :
    Calls Tryz.prog 9 #[.agg #[.int .i64 x1, .int .i64 x2, .int .i64 x3, .string x4, .int .i64 x5, .slice A k.len cap], .agg #[.int .i64 x1, .int .i64 x2, .int .i64 x3, .string x4, .int .i64 x5, .slice A' k.len cap']] w fun e w' => e = .returned (.bool true) ∧ Below w.heap.size w w' := by
  have b1 : Below w.heap.size w (w.alloc (.cells #[.int .i64 x1, .int .i64 x2, .int .i64 x3, .string x4, .int .i64 x5, .slice A k.len cap] 25)) := bel1 w _
  have b2 : Below (w.alloc (.cells #[.int .i64 x1, .int .i64 x2, .int .i64 x3, .string x4, .int .i64 x5, .slice A k.len cap] 25)).heap.size (w.alloc (.cells #[.int .i64 x1, .int .i64 x2, .int .i64 x3, .string x4, .int .i64 x5, .slice A k.len cap] 25)) _ := bel1 _ (.cells #[.int .i64 x1, .int .i64 x2, .int .i64 x3, .string x4, .int .i64 x5, .slice A' k.len cap'] 25)
  have C := Lib.hid (equalf_any n IH _ k A A' cap cap' P P' ((hk.below b1).below b2) ((hk'.below b1).below b2) hd hl hwd)
  have HB2 := Lib.hid (b1.trans (b2.mono b1.size))
  have r1 := ((RowB.new w 25 #[.int .i64 x1, .int .i64 x2, .int .i64 x3, .string x4, .int .i64 x5, .slice A k.len cap]).alloc (.cells #[.int .i64 x1, .int .i64 x2, .int .i64 x3, .string x4, .int .i64 x5, .slice A' k.len cap'] 25)).cell
  have r2 := (RowB.new (w.alloc (.cells #[.int .i64 x1, .int .i64 x2, .int .i64 x3, .string x4, .int .i64 x5, .slice A k.len cap] 25)) 25 #[.int .i64 x1, .int .i64 x2, .int .i64 x3, .string x4, .int .i64 x5, .slice A' k.len cap']).cell
  clear b1 b2 hk hk' IH
  go_enter Tryz.func9, Tryz.ntmps9
  go_wp2_with fail
  refine C.out.mono ?_
  rintro e w1 ⟨rfl, h1⟩
  have HB3 : Hid (Below w.heap.size w w1) := HB2.out.trans (h1.mono HB2.out.size)
  clear h1 C r1 r2
  go_wp2_with fail
  (first | go_ret | go_ret2)
  exact ⟨rfl, HB3.out⟩
theorem psame_all : ∀ (n : Nat) (w : World) (h : Hd) (k : Fo) (A A' : Option Addr) (cap cap' : Nat) (P P' : Nat → Prop), KV w P k A cap → KV w P' k A' cap' → k.deep < n → k.len ≤ 1000001 → k.wide ≤ 1000001 → Calls Tryz.prog 9 #[nvv h A k.len cap, nvv h A' k.len cap'] w fun e w' => e = .returned (.bool true) ∧ Below w.heap.size w w'
  | 0, _, _, _, _, _, _, _, _, _, _, _, hd, _, _ => absurd hd (Nat.not_lt_zero _)
  | n + 1, w, h, k, A, A', cap, cap', P, P', hk, hk', hd, hl, hw => psame_step n (psame_all n) w h.kind h.fro h.til h.word h.at_ k A A' cap cap' P P' hk hk' (by omega) hl hw
end Pg
end Go.Proofs.YtiabkkdeonepgaaGreatDoor
