import Derived.Deep.RegionHeld3
import Derived.Test.YtiabkkdeonepgaaGreatDoorXX
import Derived.Test.YtiabkkdeonepgaaGreatDoorXV
import Derived.Test.YtiabkkdeonepgaaGreatDoorXY
import Derived.Test.YtiabkkdeonepgaaGreatDoorYS
set_option maxRecDepth 100000
set_option maxHeartbeats 8000000
namespace Go.Proofs.YtiabkkdeonepgaaGreatDoor
open Go.RowKit
namespace Pg
open Ps
theorem kids2 (B : Nat) (w : World) (x2 x3 : Nat) (x4 : ByteArray) (x5 : Nat) (k : Fo) (A : Option Addr) (cap : Nat) (hk : KV w (fun g => g < B) k A cap) (hs : shp 2 k.kinds) (hl : k.len ≤ 1000001) :
    Calls Tryz.prog 30 #[.agg #[.int .i64 2, .int .i64 x2, .int .i64 x3, .string x4, .int .i64 x5, .slice A k.len cap]] w fun e w' => e = .returned (.bool true) ∧ Below w.heap.size w w' := by
  have R0 := Lib.hid (RowB.new w 25 #[.int .i64 2, .int .i64 x2, .int .i64 x3, .string x4, .int .i64 x5, .slice A k.len cap])
  have HK := Lib.hid hk
  clear hk
  go_enter Tryz.func30, Tryz.ntmps30
  have C := Lib.hid (upto_any B (w.alloc (.cells #[.int .i64 2, .int .i64 x2, .int .i64 x3, .string x4, .int .i64 x5, .slice A k.len cap] 25)) 3 3 rfl)
  go_wp2_with fail
  refine C.out.mono ?_
  rintro e w1 ⟨v, rfl, hp, hb⟩
  obtain ⟨F1, c1, rfl⟩ := hp.form
  have B1 := Lib.hid hb
  have P1 := Lib.hid hp
  clear C hp hb
  have C := Lib.hid (upto_any B w1 2 2 rfl)
  go_wp2_with fail
  refine C.out.mono ?_
  rintro e w2 ⟨v, rfl, hp, hb⟩
  obtain ⟨F2, c2, rfl⟩ := hp.form
  have B2 := Lib.hid hb
  have P2 := Lib.hid hp
  clear C hp hb
  have C := Lib.hid (upto_any B w2 1 1 rfl)
  go_wp2_with fail
  refine C.out.mono ?_
  rintro e w3 ⟨v, rfl, hp, hb⟩
  obtain ⟨F3, c3, rfl⟩ := hp.form
  have B3 := Lib.hid hb
  have P3 := Lib.hid hp
  clear C hp hb
  have C := Lib.hid (upto_any B w3 0 0 rfl)
  go_wp2_with fail
  refine C.out.mono ?_
  rintro e w4 ⟨v, rfl, hp, hb⟩
  obtain ⟨F4, c4, rfl⟩ := hp.form
  have B4 := Lib.hid hb
  have P4 := Lib.hid hp
  clear C hp hb
  have C := Lib.hid (is_new B w4 [4] 1 w4.heap.size rfl #[.int .i64 4] rfl rfl (by decide))
  go_wp2_with fail
  refine C.out.mono ?_
  rintro e w5 ⟨v, rfl, hp, hb⟩
  obtain ⟨F5, c5, rfl⟩ := hp.form
  have B5 := Lib.hid hb
  have P5 := Lib.hid hp
  clear C hp hb
  have C := Lib.hid (is_new B w5 [6] 1 w5.heap.size rfl #[.int .i64 6] rfl rfl (by decide))
  go_wp2_with fail
  refine C.out.mono ?_
  rintro e w6 ⟨v, rfl, hp, hb⟩
  obtain ⟨F6, c6, rfl⟩ := hp.form
  have B6 := Lib.hid hb
  have P6 := Lib.hid hp
  clear C hp hb
  have b0 : Below w.heap.size w (w.alloc (.cells #[.int .i64 2, .int .i64 x2, .int .i64 x3, .string x4, .int .i64 x5, .slice A k.len cap] 25)) := bel1 w _
  have y2 := B1.out.trans (B2.out.mono B1.out.size)
  have y3 := y2.trans (B3.out.mono y2.size)
  have y4 := y3.trans (B4.out.mono y3.size)
  have y5 := y4.trans (B5.out.mono y4.size)
  have y6 := y5.trans (B6.out.mono y5.size)
  have BW : Hid (Below w.heap.size w w6) := b0.trans (y6.mono b0.size)
  have P5' := Lib.hid (P5.out.below B6.out)
  have P4' := Lib.hid ((P4.out.below B5.out).below B6.out)
  have P3' := Lib.hid (((P3.out.below B4.out).below B5.out).below B6.out)
  have P2' := Lib.hid ((((P2.out.below B3.out).below B4.out).below B5.out).below B6.out)
  have P1' := Lib.hid (((((P1.out.below B2.out).below B3.out).below B4.out).below B5.out).below B6.out)
  have RW : Hid (RowB w6 w.heap.size 25 #[.int .i64 2, .int .i64 x2, .int .i64 x3, .string x4, .int .i64 x5, .slice A k.len cap]) := R0.out.below y6 R0.out.lt
  have KW : Hid (KV w6 (fun g => g < B) k A cap) := HK.out.below BW.out
  have HL := Lib.hid hl
  have HS := Lib.hid hs
  clear b0 y2 y3 y4 y5 y6 P1 P2 P3 P4 P5 B1 B2 B3 B4 B5 B6 R0 HK hl hs
  have rc := RW.out.cell
  have BD : Hid (Below w.heap.size w w6.drew) := Below.drew BW.out
  have RD : Hid (RowB w6.drew w.heap.size 25 #[.int .i64 2, .int .i64 x2, .int .i64 x3, .string x4, .int .i64 x5, .slice A k.len cap]) := RW.out
  have rd := RD.out.cell
  have KD : Hid (KV w6.drew (fun g => g < B) k A cap) := KW.out.below (Below.drew (Below.refl _ _))
  have hd6 : Below w6.heap.size w6 w6.drew := Below.drew (Below.refl _ _)
  have D1 := Lib.hid (P1'.out.below hd6)
  have D5 := Lib.hid (P5'.out.below hd6)
  have D6 := Lib.hid (P6.out.below hd6)
  clear hd6
  have C51 := Lib.hid (is_new B w6.drew [23] 1 w6.heap.size rfl #[.int .i64 23] rfl rfl (by decide))
  have HS0 := rd
  have HSA := (RD.out.alloc (.cells #[.int .i64 23] 3)).cell
  go_wp2_with fail
  go_region_held3 (fun w' => ∀ j, w'.cell? ⟨w.heap.size, j, none⟩ = #[.int .i64 2, .int .i64 x2, .int .i64 x3, .string x4, .int .i64 x5, .slice A k.len cap][j]?)
    (first
      | (with_reducible exact HS2)
      | (with_reducible exact HSB)
      | (with_reducible exact HS1)
      | (with_reducible exact HS0)
      | (with_reducible exact HSA)
      | exact HSB
      | exact HSA)
    (first
    | (go_at_call 51; refine (C51.out).mono ?_; rintro e w7 ⟨u, rfl, hp7, hb7⟩; obtain ⟨F7, c7, rfl⟩ := hp7.form; have B7 := Lib.hid (BD.out.trans (hb7.mono BD.out.size)); have K7 := Lib.hid (KD.out.below hb7); have RR := Lib.hid (RD.out.below hb7 RD.out.lt); have r7 := RR.out.cell; have P7 := Lib.hid hp7; clear hp7 hb7; have HS1 := r7; have HSB := (RR.out.alloc (.cells #[.func (.func F7) #[] c7] 93)).cell)
    | (go_at_call 52; refine (fit1 B w7 (.func (.func F7) #[] c7) (· ∈ [23]) 23 w7.heap.size rfl k A cap k.len HS.out rfl K7.out P7.out (by decide)).mono ?_; rintro e w9 ⟨rfl, h9⟩; have HF := Lib.hid (B7.out.trans (h9.mono B7.out.size)); have HS2 := (RR.out.below h9 RR.out.lt).cell; clear h9)
    | fail)
  go_wp2
  (first | go_ret | go_ret2)
  exact ⟨rfl, HF.out⟩
theorem kids3 (B : Nat) (w : World) (x2 x3 : Nat) (x4 : ByteArray) (x5 : Nat) (k : Fo) (A : Option Addr) (cap : Nat) (hk : KV w (fun g => g < B) k A cap) (hs : shp 3 k.kinds) (hl : k.len ≤ 1000001) :
    Calls Tryz.prog 30 #[.agg #[.int .i64 3, .int .i64 x2, .int .i64 x3, .string x4, .int .i64 x5, .slice A k.len cap]] w fun e w' => e = .returned (.bool true) ∧ Below w.heap.size w w' := by
  have R0 := Lib.hid (RowB.new w 25 #[.int .i64 3, .int .i64 x2, .int .i64 x3, .string x4, .int .i64 x5, .slice A k.len cap])
  have HK := Lib.hid hk
  clear hk
  go_enter Tryz.func30, Tryz.ntmps30
  have C := Lib.hid (upto_any B (w.alloc (.cells #[.int .i64 3, .int .i64 x2, .int .i64 x3, .string x4, .int .i64 x5, .slice A k.len cap] 25)) 3 3 rfl)
  go_wp2_with fail
  refine C.out.mono ?_
  rintro e w1 ⟨v, rfl, hp, hb⟩
  obtain ⟨F1, c1, rfl⟩ := hp.form
  have B1 := Lib.hid hb
  have P1 := Lib.hid hp
  clear C hp hb
  have C := Lib.hid (upto_any B w1 2 2 rfl)
  go_wp2_with fail
  refine C.out.mono ?_
  rintro e w2 ⟨v, rfl, hp, hb⟩
  obtain ⟨F2, c2, rfl⟩ := hp.form
  have B2 := Lib.hid hb
  have P2 := Lib.hid hp
  clear C hp hb
  have C := Lib.hid (upto_any B w2 1 1 rfl)
  go_wp2_with fail
  refine C.out.mono ?_
  rintro e w3 ⟨v, rfl, hp, hb⟩
  obtain ⟨F3, c3, rfl⟩ := hp.form
  have B3 := Lib.hid hb
  have P3 := Lib.hid hp
  clear C hp hb
  have C := Lib.hid (upto_any B w3 0 0 rfl)
  go_wp2_with fail
  refine C.out.mono ?_
  rintro e w4 ⟨v, rfl, hp, hb⟩
  obtain ⟨F4, c4, rfl⟩ := hp.form
  have B4 := Lib.hid hb
  have P4 := Lib.hid hp
  clear C hp hb
  have C := Lib.hid (is_new B w4 [4] 1 w4.heap.size rfl #[.int .i64 4] rfl rfl (by decide))
  go_wp2_with fail
  refine C.out.mono ?_
  rintro e w5 ⟨v, rfl, hp, hb⟩
  obtain ⟨F5, c5, rfl⟩ := hp.form
  have B5 := Lib.hid hb
  have P5 := Lib.hid hp
  clear C hp hb
  have C := Lib.hid (is_new B w5 [6] 1 w5.heap.size rfl #[.int .i64 6] rfl rfl (by decide))
  go_wp2_with fail
  refine C.out.mono ?_
  rintro e w6 ⟨v, rfl, hp, hb⟩
  obtain ⟨F6, c6, rfl⟩ := hp.form
  have B6 := Lib.hid hb
  have P6 := Lib.hid hp
  clear C hp hb
  have b0 : Below w.heap.size w (w.alloc (.cells #[.int .i64 3, .int .i64 x2, .int .i64 x3, .string x4, .int .i64 x5, .slice A k.len cap] 25)) := bel1 w _
  have y2 := B1.out.trans (B2.out.mono B1.out.size)
  have y3 := y2.trans (B3.out.mono y2.size)
  have y4 := y3.trans (B4.out.mono y3.size)
  have y5 := y4.trans (B5.out.mono y4.size)
  have y6 := y5.trans (B6.out.mono y5.size)
  have BW : Hid (Below w.heap.size w w6) := b0.trans (y6.mono b0.size)
  have P5' := Lib.hid (P5.out.below B6.out)
  have P4' := Lib.hid ((P4.out.below B5.out).below B6.out)
  have P3' := Lib.hid (((P3.out.below B4.out).below B5.out).below B6.out)
  have P2' := Lib.hid ((((P2.out.below B3.out).below B4.out).below B5.out).below B6.out)
  have P1' := Lib.hid (((((P1.out.below B2.out).below B3.out).below B4.out).below B5.out).below B6.out)
  have RW : Hid (RowB w6 w.heap.size 25 #[.int .i64 3, .int .i64 x2, .int .i64 x3, .string x4, .int .i64 x5, .slice A k.len cap]) := R0.out.below y6 R0.out.lt
  have KW : Hid (KV w6 (fun g => g < B) k A cap) := HK.out.below BW.out
  have HL := Lib.hid hl
  have HS := Lib.hid hs
  clear b0 y2 y3 y4 y5 y6 P1 P2 P3 P4 P5 B1 B2 B3 B4 B5 B6 R0 HK hl hs
  have rc := RW.out.cell
  obtain ⟨t, hks, h0⟩ := HS.out
  have HKS := Lib.hid hks
  have H0 := Lib.hid h0
  clear hks h0
  have BD : Hid (Below w.heap.size w w6.drew) := Below.drew BW.out
  have RD : Hid (RowB w6.drew w.heap.size 25 #[.int .i64 3, .int .i64 x2, .int .i64 x3, .string x4, .int .i64 x5, .slice A k.len cap]) := RW.out
  have rd := RD.out.cell
  have KD : Hid (KV w6.drew (fun g => g < B) k A cap) := KW.out.below (Below.drew (Below.refl _ _))
  have hd6 : Below w6.heap.size w6 w6.drew := Below.drew (Below.refl _ _)
  have D1 := Lib.hid (P1'.out.below hd6)
  have D5 := Lib.hid (P5'.out.below hd6)
  have D6 := Lib.hid (P6.out.below hd6)
  clear hd6
  have C53 := Lib.hid (ornone_any B w6.drew (.func (.func 54) #[] #[]) _ (istype_part B w6.drew))
  have HS0 := rd
  go_wp2_with fail
  go_region_held3 (fun w' => ∀ j, w'.cell? ⟨w.heap.size, j, none⟩ = #[.int .i64 3, .int .i64 x2, .int .i64 x3, .string x4, .int .i64 x5, .slice A k.len cap][j]?)
    (first
      | (with_reducible exact HS2)
      | (with_reducible exact HSB)
      | (with_reducible exact HS1)
      | (with_reducible exact HS0)
      | (with_reducible exact HSA)
      | exact HSB
      | exact HSA)
    (first
    | (go_at_call 53; refine (C53.out).mono ?_; rintro e w7 ⟨u, rfl, hp7, hb7⟩; obtain ⟨F7, c7, rfl⟩ := hp7.form; have B7 := Lib.hid (BD.out.trans (hb7.mono BD.out.size)); have K7 := Lib.hid (KD.out.below hb7); have RR := Lib.hid (RD.out.below hb7 RD.out.lt); have r7 := RR.out.cell; have P7 := Lib.hid hp7; have E1 := Lib.hid (D1.out.below hb7); have E5 := Lib.hid (D5.out.below hb7); have E6 := Lib.hid (D6.out.below hb7); clear hp7 hb7; have HS1 := r7; have HSB := (RR.out.alloc (.cells #[(.func (.func F5) #[] c5), (.func (.func F7) #[] c7), (.func (.func F6) #[] c6)] 93)).cell)
    | (go_at_call 52; refine (fit3 B w7 (.func (.func F5) #[] c5) (.func (.func F7) #[] c7) (.func (.func F6) #[] c6) (· ∈ [4]) nT (· ∈ [6]) 4 t 6 w7.heap.size rfl k A cap k.len HKS.out rfl K7.out E5.out (by decide) P7.out H0.out E6.out (by decide)).mono ?_; rintro e w9 ⟨rfl, h9⟩; have HF := Lib.hid (B7.out.trans (h9.mono B7.out.size)); have HS2 := (RR.out.below h9 RR.out.lt).cell; clear h9)
    | fail)
  go_wp2
  (first | go_ret | go_ret2)
  exact ⟨rfl, HF.out⟩
theorem kids28 (B : Nat) (w : World) (x2 x3 : Nat) (x4 : ByteArray) (x5 : Nat) (k : Fo) (A : Option Addr) (cap : Nat) (hk : KV w (fun g => g < B) k A cap) (hs : shp 28 k.kinds) (hl : k.len ≤ 1000001) :
    Calls Tryz.prog 30 #[.agg #[.int .i64 28, .int .i64 x2, .int .i64 x3, .string x4, .int .i64 x5, .slice A k.len cap]] w fun e w' => e = .returned (.bool true) ∧ Below w.heap.size w w' := by
  have R0 := Lib.hid (RowB.new w 25 #[.int .i64 28, .int .i64 x2, .int .i64 x3, .string x4, .int .i64 x5, .slice A k.len cap])
  have HK := Lib.hid hk
  clear hk
  go_enter Tryz.func30, Tryz.ntmps30
  have C := Lib.hid (upto_any B (w.alloc (.cells #[.int .i64 28, .int .i64 x2, .int .i64 x3, .string x4, .int .i64 x5, .slice A k.len cap] 25)) 3 3 rfl)
  go_wp2_with fail
  refine C.out.mono ?_
  rintro e w1 ⟨v, rfl, hp, hb⟩
  obtain ⟨F1, c1, rfl⟩ := hp.form
  have B1 := Lib.hid hb
  have P1 := Lib.hid hp
  clear C hp hb
  have C := Lib.hid (upto_any B w1 2 2 rfl)
  go_wp2_with fail
  refine C.out.mono ?_
  rintro e w2 ⟨v, rfl, hp, hb⟩
  obtain ⟨F2, c2, rfl⟩ := hp.form
  have B2 := Lib.hid hb
  have P2 := Lib.hid hp
  clear C hp hb
  have C := Lib.hid (upto_any B w2 1 1 rfl)
  go_wp2_with fail
  refine C.out.mono ?_
  rintro e w3 ⟨v, rfl, hp, hb⟩
  obtain ⟨F3, c3, rfl⟩ := hp.form
  have B3 := Lib.hid hb
  have P3 := Lib.hid hp
  clear C hp hb
  have C := Lib.hid (upto_any B w3 0 0 rfl)
  go_wp2_with fail
  refine C.out.mono ?_
  rintro e w4 ⟨v, rfl, hp, hb⟩
  obtain ⟨F4, c4, rfl⟩ := hp.form
  have B4 := Lib.hid hb
  have P4 := Lib.hid hp
  clear C hp hb
  have C := Lib.hid (is_new B w4 [4] 1 w4.heap.size rfl #[.int .i64 4] rfl rfl (by decide))
  go_wp2_with fail
  refine C.out.mono ?_
  rintro e w5 ⟨v, rfl, hp, hb⟩
  obtain ⟨F5, c5, rfl⟩ := hp.form
  have B5 := Lib.hid hb
  have P5 := Lib.hid hp
  clear C hp hb
  have C := Lib.hid (is_new B w5 [6] 1 w5.heap.size rfl #[.int .i64 6] rfl rfl (by decide))
  go_wp2_with fail
  refine C.out.mono ?_
  rintro e w6 ⟨v, rfl, hp, hb⟩
  obtain ⟨F6, c6, rfl⟩ := hp.form
  have B6 := Lib.hid hb
  have P6 := Lib.hid hp
  clear C hp hb
  have b0 : Below w.heap.size w (w.alloc (.cells #[.int .i64 28, .int .i64 x2, .int .i64 x3, .string x4, .int .i64 x5, .slice A k.len cap] 25)) := bel1 w _
  have y2 := B1.out.trans (B2.out.mono B1.out.size)
  have y3 := y2.trans (B3.out.mono y2.size)
  have y4 := y3.trans (B4.out.mono y3.size)
  have y5 := y4.trans (B5.out.mono y4.size)
  have y6 := y5.trans (B6.out.mono y5.size)
  have BW : Hid (Below w.heap.size w w6) := b0.trans (y6.mono b0.size)
  have P5' := Lib.hid (P5.out.below B6.out)
  have P4' := Lib.hid ((P4.out.below B5.out).below B6.out)
  have P3' := Lib.hid (((P3.out.below B4.out).below B5.out).below B6.out)
  have P2' := Lib.hid ((((P2.out.below B3.out).below B4.out).below B5.out).below B6.out)
  have P1' := Lib.hid (((((P1.out.below B2.out).below B3.out).below B4.out).below B5.out).below B6.out)
  have RW : Hid (RowB w6 w.heap.size 25 #[.int .i64 28, .int .i64 x2, .int .i64 x3, .string x4, .int .i64 x5, .slice A k.len cap]) := R0.out.below y6 R0.out.lt
  have KW : Hid (KV w6 (fun g => g < B) k A cap) := HK.out.below BW.out
  have HL := Lib.hid hl
  have HS := Lib.hid hs
  clear b0 y2 y3 y4 y5 y6 P1 P2 P3 P4 P5 B1 B2 B3 B4 B5 B6 R0 HK hl hs
  have rc := RW.out.cell
  obtain ⟨t, hks, h0⟩ := HS.out
  have HKS := Lib.hid hks
  have H0 := Lib.hid h0
  clear hks h0
  have BD : Hid (Below w.heap.size w w6.drew) := Below.drew BW.out
  have RD : Hid (RowB w6.drew w.heap.size 25 #[.int .i64 28, .int .i64 x2, .int .i64 x3, .string x4, .int .i64 x5, .slice A k.len cap]) := RW.out
  have rd := RD.out.cell
  have KD : Hid (KV w6.drew (fun g => g < B) k A cap) := KW.out.below (Below.drew (Below.refl _ _))
  have hd6 : Below w6.heap.size w6 w6.drew := Below.drew (Below.refl _ _)
  have D1 := Lib.hid (P1'.out.below hd6)
  have D5 := Lib.hid (P5'.out.below hd6)
  have D6 := Lib.hid (P6.out.below hd6)
  clear hd6
  have C53 := Lib.hid (ornone_any B w6.drew (.func (.func 54) #[] #[]) _ (istype_part B w6.drew))
  have HS0 := rd
  go_wp2_with fail
  go_region_held3 (fun w' => ∀ j, w'.cell? ⟨w.heap.size, j, none⟩ = #[.int .i64 28, .int .i64 x2, .int .i64 x3, .string x4, .int .i64 x5, .slice A k.len cap][j]?)
    (first
      | (with_reducible exact HS2)
      | (with_reducible exact HSB)
      | (with_reducible exact HS1)
      | (with_reducible exact HS0)
      | (with_reducible exact HSA)
      | exact HSB
      | exact HSA)
    (first
    | (go_at_call 53; refine (C53.out).mono ?_; rintro e w7 ⟨u, rfl, hp7, hb7⟩; obtain ⟨F7, c7, rfl⟩ := hp7.form; have B7 := Lib.hid (BD.out.trans (hb7.mono BD.out.size)); have K7 := Lib.hid (KD.out.below hb7); have RR := Lib.hid (RD.out.below hb7 RD.out.lt); have r7 := RR.out.cell; have P7 := Lib.hid hp7; have E1 := Lib.hid (D1.out.below hb7); have E5 := Lib.hid (D5.out.below hb7); have E6 := Lib.hid (D6.out.below hb7); clear hp7 hb7; have HS1 := r7; have HSB := (RR.out.alloc (.cells #[(.func (.func F5) #[] c5), (.func (.func F7) #[] c7), (.func (.func F6) #[] c6)] 93)).cell)
    | (go_at_call 52; refine (fit3 B w7 (.func (.func F5) #[] c5) (.func (.func F7) #[] c7) (.func (.func F6) #[] c6) (· ∈ [4]) nT (· ∈ [6]) 4 t 6 w7.heap.size rfl k A cap k.len HKS.out rfl K7.out E5.out (by decide) P7.out H0.out E6.out (by decide)).mono ?_; rintro e w9 ⟨rfl, h9⟩; have HF := Lib.hid (B7.out.trans (h9.mono B7.out.size)); have HS2 := (RR.out.below h9 RR.out.lt).cell; clear h9)
    | fail)
  go_wp2
  (first | go_ret | go_ret2)
  exact ⟨rfl, HF.out⟩
end Pg
end Go.Proofs.YtiabkkdeonepgaaGreatDoor
namespace Go.Proofs.YtiabkkdeonepgaaGreatDoor
open Go.RowKit
namespace Pg
open Ps
theorem kids5 (B : Nat) (w : World) (x2 x3 : Nat) (x4 : ByteArray) (x5 : Nat) (k : Fo) (A : Option Addr) (cap : Nat) (hk : KV w (fun g => g < B) k A cap) (hs : shp 5 k.kinds) (hl : k.len ≤ 1000001) :
    Calls Tryz.prog 30 #[.agg #[.int .i64 5, .int .i64 x2, .int .i64 x3, .string x4, .int .i64 x5, .slice A k.len cap]] w fun e w' => e = .returned (.bool true) ∧ Below w.heap.size w w' := by
  have R0 := Lib.hid (RowB.new w 25 #[.int .i64 5, .int .i64 x2, .int .i64 x3, .string x4, .int .i64 x5, .slice A k.len cap])
  have HK := Lib.hid hk
  clear hk
  go_enter Tryz.func30, Tryz.ntmps30
  have C := Lib.hid (upto_any B (w.alloc (.cells #[.int .i64 5, .int .i64 x2, .int .i64 x3, .string x4, .int .i64 x5, .slice A k.len cap] 25)) 3 3 rfl)
  go_wp2_with fail
  refine C.out.mono ?_
  rintro e w1 ⟨v, rfl, hp, hb⟩
  obtain ⟨F1, c1, rfl⟩ := hp.form
  have B1 := Lib.hid hb
  have P1 := Lib.hid hp
  clear C hp hb
  have C := Lib.hid (upto_any B w1 2 2 rfl)
  go_wp2_with fail
  refine C.out.mono ?_
  rintro e w2 ⟨v, rfl, hp, hb⟩
  obtain ⟨F2, c2, rfl⟩ := hp.form
  have B2 := Lib.hid hb
  have P2 := Lib.hid hp
  clear C hp hb
  have C := Lib.hid (upto_any B w2 1 1 rfl)
  go_wp2_with fail
  refine C.out.mono ?_
  rintro e w3 ⟨v, rfl, hp, hb⟩
  obtain ⟨F3, c3, rfl⟩ := hp.form
  have B3 := Lib.hid hb
  have P3 := Lib.hid hp
  clear C hp hb
  have C := Lib.hid (upto_any B w3 0 0 rfl)
  go_wp2_with fail
  refine C.out.mono ?_
  rintro e w4 ⟨v, rfl, hp, hb⟩
  obtain ⟨F4, c4, rfl⟩ := hp.form
  have B4 := Lib.hid hb
  have P4 := Lib.hid hp
  clear C hp hb
  have C := Lib.hid (is_new B w4 [4] 1 w4.heap.size rfl #[.int .i64 4] rfl rfl (by decide))
  go_wp2_with fail
  refine C.out.mono ?_
  rintro e w5 ⟨v, rfl, hp, hb⟩
  obtain ⟨F5, c5, rfl⟩ := hp.form
  have B5 := Lib.hid hb
  have P5 := Lib.hid hp
  clear C hp hb
  have C := Lib.hid (is_new B w5 [6] 1 w5.heap.size rfl #[.int .i64 6] rfl rfl (by decide))
  go_wp2_with fail
  refine C.out.mono ?_
  rintro e w6 ⟨v, rfl, hp, hb⟩
  obtain ⟨F6, c6, rfl⟩ := hp.form
  have B6 := Lib.hid hb
  have P6 := Lib.hid hp
  clear C hp hb
  have b0 : Below w.heap.size w (w.alloc (.cells #[.int .i64 5, .int .i64 x2, .int .i64 x3, .string x4, .int .i64 x5, .slice A k.len cap] 25)) := bel1 w _
  have y2 := B1.out.trans (B2.out.mono B1.out.size)
  have y3 := y2.trans (B3.out.mono y2.size)
  have y4 := y3.trans (B4.out.mono y3.size)
  have y5 := y4.trans (B5.out.mono y4.size)
  have y6 := y5.trans (B6.out.mono y5.size)
  have BW : Hid (Below w.heap.size w w6) := b0.trans (y6.mono b0.size)
  have P5' := Lib.hid (P5.out.below B6.out)
  have P4' := Lib.hid ((P4.out.below B5.out).below B6.out)
  have P3' := Lib.hid (((P3.out.below B4.out).below B5.out).below B6.out)
  have P2' := Lib.hid ((((P2.out.below B3.out).below B4.out).below B5.out).below B6.out)
  have P1' := Lib.hid (((((P1.out.below B2.out).below B3.out).below B4.out).below B5.out).below B6.out)
  have RW : Hid (RowB w6 w.heap.size 25 #[.int .i64 5, .int .i64 x2, .int .i64 x3, .string x4, .int .i64 x5, .slice A k.len cap]) := R0.out.below y6 R0.out.lt
  have KW : Hid (KV w6 (fun g => g < B) k A cap) := HK.out.below BW.out
  have HL := Lib.hid hl
  have HS := Lib.hid hs
  clear b0 y2 y3 y4 y5 y6 P1 P2 P3 P4 P5 B1 B2 B3 B4 B5 B6 R0 HK hl hs
  have rc := RW.out.cell
  obtain ⟨t, hks, h0⟩ := HS.out
  have HKS := Lib.hid hks
  have H0 := Lib.hid h0
  clear hks h0
  have BD : Hid (Below w.heap.size w w6.drew) := Below.drew BW.out
  have RD : Hid (RowB w6.drew w.heap.size 25 #[.int .i64 5, .int .i64 x2, .int .i64 x3, .string x4, .int .i64 x5, .slice A k.len cap]) := RW.out
  have rd := RD.out.cell
  have KD : Hid (KV w6.drew (fun g => g < B) k A cap) := KW.out.below (Below.drew (Below.refl _ _))
  have hd6 : Below w6.heap.size w6 w6.drew := Below.drew (Below.refl _ _)
  have D1 := Lib.hid (P1'.out.below hd6)
  have D5 := Lib.hid (P5'.out.below hd6)
  have D6 := Lib.hid (P6.out.below hd6)
  clear hd6
  have C53 := Lib.hid (ornone_any B w6.drew (.func (.func 54) #[] #[]) _ (istype_part B w6.drew))
  have HS0 := rd
  go_wp2_with fail
  go_region_held3 (fun w' => ∀ j, w'.cell? ⟨w.heap.size, j, none⟩ = #[.int .i64 5, .int .i64 x2, .int .i64 x3, .string x4, .int .i64 x5, .slice A k.len cap][j]?)
    (first
      | (with_reducible exact HS2)
      | (with_reducible exact HSB)
      | (with_reducible exact HS1)
      | (with_reducible exact HS0)
      | (with_reducible exact HSA)
      | exact HSB
      | exact HSA)
    (first
    | (go_at_call 53; refine (C53.out).mono ?_; rintro e w7 ⟨u, rfl, hp7, hb7⟩; obtain ⟨F7, c7, rfl⟩ := hp7.form; have B7 := Lib.hid (BD.out.trans (hb7.mono BD.out.size)); have K7 := Lib.hid (KD.out.below hb7); have RR := Lib.hid (RD.out.below hb7 RD.out.lt); have r7 := RR.out.cell; have P7 := Lib.hid hp7; have E1 := Lib.hid (D1.out.below hb7); have E5 := Lib.hid (D5.out.below hb7); have E6 := Lib.hid (D6.out.below hb7); clear hp7 hb7; have HS1 := r7; have HSB := (RR.out.alloc (.cells #[(.func (.func F7) #[] c7)] 93)).cell)
    | (go_at_call 52; refine (fit1 B w7 (.func (.func F7) #[] c7) nT t w7.heap.size rfl k A cap k.len HKS.out rfl K7.out P7.out H0.out).mono ?_; rintro e w9 ⟨rfl, h9⟩; have HF := Lib.hid (B7.out.trans (h9.mono B7.out.size)); have HS2 := (RR.out.below h9 RR.out.lt).cell; clear h9)
    | fail)
  go_wp2
  (first | go_ret | go_ret2)
  exact ⟨rfl, HF.out⟩
theorem kids7 (B : Nat) (w : World) (x2 x3 : Nat) (x4 : ByteArray) (x5 : Nat) (k : Fo) (A : Option Addr) (cap : Nat) (hk : KV w (fun g => g < B) k A cap) (hs : shp 7 k.kinds) (hl : k.len ≤ 1000001) :
    Calls Tryz.prog 30 #[.agg #[.int .i64 7, .int .i64 x2, .int .i64 x3, .string x4, .int .i64 x5, .slice A k.len cap]] w fun e w' => e = .returned (.bool true) ∧ Below w.heap.size w w' := by
  have R0 := Lib.hid (RowB.new w 25 #[.int .i64 7, .int .i64 x2, .int .i64 x3, .string x4, .int .i64 x5, .slice A k.len cap])
  have HK := Lib.hid hk
  clear hk
  go_enter Tryz.func30, Tryz.ntmps30
  have C := Lib.hid (upto_any B (w.alloc (.cells #[.int .i64 7, .int .i64 x2, .int .i64 x3, .string x4, .int .i64 x5, .slice A k.len cap] 25)) 3 3 rfl)
  go_wp2_with fail
  refine C.out.mono ?_
  rintro e w1 ⟨v, rfl, hp, hb⟩
  obtain ⟨F1, c1, rfl⟩ := hp.form
  have B1 := Lib.hid hb
  have P1 := Lib.hid hp
  clear C hp hb
  have C := Lib.hid (upto_any B w1 2 2 rfl)
  go_wp2_with fail
  refine C.out.mono ?_
  rintro e w2 ⟨v, rfl, hp, hb⟩
  obtain ⟨F2, c2, rfl⟩ := hp.form
  have B2 := Lib.hid hb
  have P2 := Lib.hid hp
  clear C hp hb
  have C := Lib.hid (upto_any B w2 1 1 rfl)
  go_wp2_with fail
  refine C.out.mono ?_
  rintro e w3 ⟨v, rfl, hp, hb⟩
  obtain ⟨F3, c3, rfl⟩ := hp.form
  have B3 := Lib.hid hb
  have P3 := Lib.hid hp
  clear C hp hb
  have C := Lib.hid (upto_any B w3 0 0 rfl)
  go_wp2_with fail
  refine C.out.mono ?_
  rintro e w4 ⟨v, rfl, hp, hb⟩
  obtain ⟨F4, c4, rfl⟩ := hp.form
  have B4 := Lib.hid hb
  have P4 := Lib.hid hp
  clear C hp hb
  have C := Lib.hid (is_new B w4 [4] 1 w4.heap.size rfl #[.int .i64 4] rfl rfl (by decide))
  go_wp2_with fail
  refine C.out.mono ?_
  rintro e w5 ⟨v, rfl, hp, hb⟩
  obtain ⟨F5, c5, rfl⟩ := hp.form
  have B5 := Lib.hid hb
  have P5 := Lib.hid hp
  clear C hp hb
  have C := Lib.hid (is_new B w5 [6] 1 w5.heap.size rfl #[.int .i64 6] rfl rfl (by decide))
  go_wp2_with fail
  refine C.out.mono ?_
  rintro e w6 ⟨v, rfl, hp, hb⟩
  obtain ⟨F6, c6, rfl⟩ := hp.form
  have B6 := Lib.hid hb
  have P6 := Lib.hid hp
  clear C hp hb
  have b0 : Below w.heap.size w (w.alloc (.cells #[.int .i64 7, .int .i64 x2, .int .i64 x3, .string x4, .int .i64 x5, .slice A k.len cap] 25)) := bel1 w _
  have y2 := B1.out.trans (B2.out.mono B1.out.size)
  have y3 := y2.trans (B3.out.mono y2.size)
  have y4 := y3.trans (B4.out.mono y3.size)
  have y5 := y4.trans (B5.out.mono y4.size)
  have y6 := y5.trans (B6.out.mono y5.size)
  have BW : Hid (Below w.heap.size w w6) := b0.trans (y6.mono b0.size)
  have P5' := Lib.hid (P5.out.below B6.out)
  have P4' := Lib.hid ((P4.out.below B5.out).below B6.out)
  have P3' := Lib.hid (((P3.out.below B4.out).below B5.out).below B6.out)
  have P2' := Lib.hid ((((P2.out.below B3.out).below B4.out).below B5.out).below B6.out)
  have P1' := Lib.hid (((((P1.out.below B2.out).below B3.out).below B4.out).below B5.out).below B6.out)
  have RW : Hid (RowB w6 w.heap.size 25 #[.int .i64 7, .int .i64 x2, .int .i64 x3, .string x4, .int .i64 x5, .slice A k.len cap]) := R0.out.below y6 R0.out.lt
  have KW : Hid (KV w6 (fun g => g < B) k A cap) := HK.out.below BW.out
  have HL := Lib.hid hl
  have HS := Lib.hid hs
  clear b0 y2 y3 y4 y5 y6 P1 P2 P3 P4 P5 B1 B2 B3 B4 B5 B6 R0 HK hl hs
  have rc := RW.out.cell
  obtain ⟨t, e0, hks, h0, h1⟩ := HS.out
  have HKS := Lib.hid hks
  have H0 := Lib.hid h0
  have H1 := Lib.hid h1
  clear hks h0 h1
  have BD : Hid (Below w.heap.size w w6.drew) := Below.drew BW.out
  have RD : Hid (RowB w6.drew w.heap.size 25 #[.int .i64 7, .int .i64 x2, .int .i64 x3, .string x4, .int .i64 x5, .slice A k.len cap]) := RW.out
  have rd := RD.out.cell
  have KD : Hid (KV w6.drew (fun g => g < B) k A cap) := KW.out.below (Below.drew (Below.refl _ _))
  have hd6 : Below w6.heap.size w6 w6.drew := Below.drew (Below.refl _ _)
  have D1 := Lib.hid (P1'.out.below hd6)
  have D5 := Lib.hid (P5'.out.below hd6)
  have D6 := Lib.hid (P6.out.below hd6)
  clear hd6
  have C53 := Lib.hid (ornone_any B w6.drew (.func (.func 54) #[] #[]) _ (istype_part B w6.drew))
  have HS0 := rd
  go_wp2_with fail
  go_region_held3 (fun w' => ∀ j, w'.cell? ⟨w.heap.size, j, none⟩ = #[.int .i64 7, .int .i64 x2, .int .i64 x3, .string x4, .int .i64 x5, .slice A k.len cap][j]?)
    (first
      | (with_reducible exact HS2)
      | (with_reducible exact HSB)
      | (with_reducible exact HS1)
      | (with_reducible exact HS0)
      | (with_reducible exact HSA)
      | exact HSB
      | exact HSA)
    (first
    | (go_at_call 53; refine (C53.out).mono ?_; rintro e w7 ⟨u, rfl, hp7, hb7⟩; obtain ⟨F7, c7, rfl⟩ := hp7.form; have B7 := Lib.hid (BD.out.trans (hb7.mono BD.out.size)); have K7 := Lib.hid (KD.out.below hb7); have RR := Lib.hid (RD.out.below hb7 RD.out.lt); have r7 := RR.out.cell; have P7 := Lib.hid hp7; have E1 := Lib.hid (D1.out.below hb7); have E5 := Lib.hid (D5.out.below hb7); have E6 := Lib.hid (D6.out.below hb7); clear hp7 hb7; have HS1 := r7; have HSB := (RR.out.alloc (.cells #[(.func (.func F7) #[] c7), (.func (.func F1) #[] c1)] 93)).cell)
    | (go_at_call 52; refine (fit2 B w7 (.func (.func F7) #[] c7) (.func (.func F1) #[] c1) nT (up 3) t e0 w7.heap.size rfl k A cap k.len HKS.out rfl K7.out P7.out H0.out E1.out H1.out).mono ?_; rintro e w9 ⟨rfl, h9⟩; have HF := Lib.hid (B7.out.trans (h9.mono B7.out.size)); have HS2 := (RR.out.below h9 RR.out.lt).cell; clear h9)
    | fail)
  go_wp2
  (first | go_ret | go_ret2)
  exact ⟨rfl, HF.out⟩
theorem kids4 (B : Nat) (w : World) (x2 x3 : Nat) (x4 : ByteArray) (x5 : Nat) (k : Fo) (A : Option Addr) (cap : Nat) (hk : KV w (fun g => g < B) k A cap) (hs : shp 4 k.kinds) (hl : k.len ≤ 1000001) :
    Calls Tryz.prog 30 #[.agg #[.int .i64 4, .int .i64 x2, .int .i64 x3, .string x4, .int .i64 x5, .slice A k.len cap]] w fun e w' => e = .returned (.bool true) ∧ Below w.heap.size w w' := by
  have R0 := Lib.hid (RowB.new w 25 #[.int .i64 4, .int .i64 x2, .int .i64 x3, .string x4, .int .i64 x5, .slice A k.len cap])
  have HK := Lib.hid hk
  clear hk
  go_enter Tryz.func30, Tryz.ntmps30
  have C := Lib.hid (upto_any B (w.alloc (.cells #[.int .i64 4, .int .i64 x2, .int .i64 x3, .string x4, .int .i64 x5, .slice A k.len cap] 25)) 3 3 rfl)
  go_wp2_with fail
  refine C.out.mono ?_
  rintro e w1 ⟨v, rfl, hp, hb⟩
  obtain ⟨F1, c1, rfl⟩ := hp.form
  have B1 := Lib.hid hb
  have P1 := Lib.hid hp
  clear C hp hb
  have C := Lib.hid (upto_any B w1 2 2 rfl)
  go_wp2_with fail
  refine C.out.mono ?_
  rintro e w2 ⟨v, rfl, hp, hb⟩
  obtain ⟨F2, c2, rfl⟩ := hp.form
  have B2 := Lib.hid hb
  have P2 := Lib.hid hp
  clear C hp hb
  have C := Lib.hid (upto_any B w2 1 1 rfl)
  go_wp2_with fail
  refine C.out.mono ?_
  rintro e w3 ⟨v, rfl, hp, hb⟩
  obtain ⟨F3, c3, rfl⟩ := hp.form
  have B3 := Lib.hid hb
  have P3 := Lib.hid hp
  clear C hp hb
  have C := Lib.hid (upto_any B w3 0 0 rfl)
  go_wp2_with fail
  refine C.out.mono ?_
  rintro e w4 ⟨v, rfl, hp, hb⟩
  obtain ⟨F4, c4, rfl⟩ := hp.form
  have B4 := Lib.hid hb
  have P4 := Lib.hid hp
  clear C hp hb
  have C := Lib.hid (is_new B w4 [4] 1 w4.heap.size rfl #[.int .i64 4] rfl rfl (by decide))
  go_wp2_with fail
  refine C.out.mono ?_
  rintro e w5 ⟨v, rfl, hp, hb⟩
  obtain ⟨F5, c5, rfl⟩ := hp.form
  have B5 := Lib.hid hb
  have P5 := Lib.hid hp
  clear C hp hb
  have C := Lib.hid (is_new B w5 [6] 1 w5.heap.size rfl #[.int .i64 6] rfl rfl (by decide))
  go_wp2_with fail
  refine C.out.mono ?_
  rintro e w6 ⟨v, rfl, hp, hb⟩
  obtain ⟨F6, c6, rfl⟩ := hp.form
  have B6 := Lib.hid hb
  have P6 := Lib.hid hp
  clear C hp hb
  have b0 : Below w.heap.size w (w.alloc (.cells #[.int .i64 4, .int .i64 x2, .int .i64 x3, .string x4, .int .i64 x5, .slice A k.len cap] 25)) := bel1 w _
  have y2 := B1.out.trans (B2.out.mono B1.out.size)
  have y3 := y2.trans (B3.out.mono y2.size)
  have y4 := y3.trans (B4.out.mono y3.size)
  have y5 := y4.trans (B5.out.mono y4.size)
  have y6 := y5.trans (B6.out.mono y5.size)
  have BW : Hid (Below w.heap.size w w6) := b0.trans (y6.mono b0.size)
  have P5' := Lib.hid (P5.out.below B6.out)
  have P4' := Lib.hid ((P4.out.below B5.out).below B6.out)
  have P3' := Lib.hid (((P3.out.below B4.out).below B5.out).below B6.out)
  have P2' := Lib.hid ((((P2.out.below B3.out).below B4.out).below B5.out).below B6.out)
  have P1' := Lib.hid (((((P1.out.below B2.out).below B3.out).below B4.out).below B5.out).below B6.out)
  have RW : Hid (RowB w6 w.heap.size 25 #[.int .i64 4, .int .i64 x2, .int .i64 x3, .string x4, .int .i64 x5, .slice A k.len cap]) := R0.out.below y6 R0.out.lt
  have KW : Hid (KV w6 (fun g => g < B) k A cap) := HK.out.below BW.out
  have HL := Lib.hid hl
  have HS := Lib.hid hs
  clear b0 y2 y3 y4 y5 y6 P1 P2 P3 P4 P5 B1 B2 B3 B4 B5 B6 R0 HK hl hs
  have rc := RW.out.cell
  have BD : Hid (Below w.heap.size w w6.drew) := Below.drew BW.out
  have RD : Hid (RowB w6.drew w.heap.size 25 #[.int .i64 4, .int .i64 x2, .int .i64 x3, .string x4, .int .i64 x5, .slice A k.len cap]) := RW.out
  have rd := RD.out.cell
  have KD : Hid (KV w6.drew (fun g => g < B) k A cap) := KW.out.below (Below.drew (Below.refl _ _))
  have hd6 : Below w6.heap.size w6 w6.drew := Below.drew (Below.refl _ _)
  have D1 := Lib.hid (P1'.out.below hd6)
  have D5 := Lib.hid (P5'.out.below hd6)
  have D6 := Lib.hid (P6.out.below hd6)
  clear hd6
  have C51 := Lib.hid (is_new B w6.drew [5] 1 w6.heap.size rfl #[.int .i64 5] rfl rfl (by decide))
  have HS0 := rd
  have HSA := (RD.out.alloc (.cells #[.int .i64 5] 3)).cell
  go_wp2_with fail
  go_region_held3 (fun w' => ∀ j, w'.cell? ⟨w.heap.size, j, none⟩ = #[.int .i64 4, .int .i64 x2, .int .i64 x3, .string x4, .int .i64 x5, .slice A k.len cap][j]?)
    (first
      | (with_reducible exact HS2)
      | (with_reducible exact HSB)
      | (with_reducible exact HS1)
      | (with_reducible exact HS0)
      | (with_reducible exact HSA)
      | exact HSB
      | exact HSA)
    (first
    | (go_at_call 51; refine (C51.out).mono ?_; rintro e w7 ⟨u, rfl, hp7, hb7⟩; obtain ⟨F7, c7, rfl⟩ := hp7.form; have B7 := Lib.hid (BD.out.trans (hb7.mono BD.out.size)); have K7 := Lib.hid (KD.out.below hb7); have RR := Lib.hid (RD.out.below hb7 RD.out.lt); have r7 := RR.out.cell; have P7 := Lib.hid hp7; clear hp7 hb7; have HS1 := r7)
    | (go_at_call 31; refine (eachk B w7 (.func (.func F7) #[] c7) _ k A cap k.len P7.out K7.out (fun x hx => by have := HS.out x hx; simp; omega) HL.out rfl).mono ?_; rintro e w9 ⟨rfl, h9⟩; have HF := Lib.hid (B7.out.trans (h9.mono B7.out.size)); have HS2 := (RR.out.below h9 RR.out.lt).cell; clear h9)
    | fail)
  go_wp2
  (first | go_ret | go_ret2)
  exact ⟨rfl, HF.out⟩
theorem kids6 (B : Nat) (w : World) (x2 x3 : Nat) (x4 : ByteArray) (x5 : Nat) (k : Fo) (A : Option Addr) (cap : Nat) (hk : KV w (fun g => g < B) k A cap) (hs : shp 6 k.kinds) (hl : k.len ≤ 1000001) :
    Calls Tryz.prog 30 #[.agg #[.int .i64 6, .int .i64 x2, .int .i64 x3, .string x4, .int .i64 x5, .slice A k.len cap]] w fun e w' => e = .returned (.bool true) ∧ Below w.heap.size w w' := by
  have R0 := Lib.hid (RowB.new w 25 #[.int .i64 6, .int .i64 x2, .int .i64 x3, .string x4, .int .i64 x5, .slice A k.len cap])
  have HK := Lib.hid hk
  clear hk
  go_enter Tryz.func30, Tryz.ntmps30
  have C := Lib.hid (upto_any B (w.alloc (.cells #[.int .i64 6, .int .i64 x2, .int .i64 x3, .string x4, .int .i64 x5, .slice A k.len cap] 25)) 3 3 rfl)
  go_wp2_with fail
  refine C.out.mono ?_
  rintro e w1 ⟨v, rfl, hp, hb⟩
  obtain ⟨F1, c1, rfl⟩ := hp.form
  have B1 := Lib.hid hb
  have P1 := Lib.hid hp
  clear C hp hb
  have C := Lib.hid (upto_any B w1 2 2 rfl)
  go_wp2_with fail
  refine C.out.mono ?_
  rintro e w2 ⟨v, rfl, hp, hb⟩
  obtain ⟨F2, c2, rfl⟩ := hp.form
  have B2 := Lib.hid hb
  have P2 := Lib.hid hp
  clear C hp hb
  have C := Lib.hid (upto_any B w2 1 1 rfl)
  go_wp2_with fail
  refine C.out.mono ?_
  rintro e w3 ⟨v, rfl, hp, hb⟩
  obtain ⟨F3, c3, rfl⟩ := hp.form
  have B3 := Lib.hid hb
  have P3 := Lib.hid hp
  clear C hp hb
  have C := Lib.hid (upto_any B w3 0 0 rfl)
  go_wp2_with fail
  refine C.out.mono ?_
  rintro e w4 ⟨v, rfl, hp, hb⟩
  obtain ⟨F4, c4, rfl⟩ := hp.form
  have B4 := Lib.hid hb
  have P4 := Lib.hid hp
  clear C hp hb
  have C := Lib.hid (is_new B w4 [4] 1 w4.heap.size rfl #[.int .i64 4] rfl rfl (by decide))
  go_wp2_with fail
  refine C.out.mono ?_
  rintro e w5 ⟨v, rfl, hp, hb⟩
  obtain ⟨F5, c5, rfl⟩ := hp.form
  have B5 := Lib.hid hb
  have P5 := Lib.hid hp
  clear C hp hb
  have C := Lib.hid (is_new B w5 [6] 1 w5.heap.size rfl #[.int .i64 6] rfl rfl (by decide))
  go_wp2_with fail
  refine C.out.mono ?_
  rintro e w6 ⟨v, rfl, hp, hb⟩
  obtain ⟨F6, c6, rfl⟩ := hp.form
  have B6 := Lib.hid hb
  have P6 := Lib.hid hp
  clear C hp hb
  have b0 : Below w.heap.size w (w.alloc (.cells #[.int .i64 6, .int .i64 x2, .int .i64 x3, .string x4, .int .i64 x5, .slice A k.len cap] 25)) := bel1 w _
  have y2 := B1.out.trans (B2.out.mono B1.out.size)
  have y3 := y2.trans (B3.out.mono y2.size)
  have y4 := y3.trans (B4.out.mono y3.size)
  have y5 := y4.trans (B5.out.mono y4.size)
  have y6 := y5.trans (B6.out.mono y5.size)
  have BW : Hid (Below w.heap.size w w6) := b0.trans (y6.mono b0.size)
  have P5' := Lib.hid (P5.out.below B6.out)
  have P4' := Lib.hid ((P4.out.below B5.out).below B6.out)
  have P3' := Lib.hid (((P3.out.below B4.out).below B5.out).below B6.out)
  have P2' := Lib.hid ((((P2.out.below B3.out).below B4.out).below B5.out).below B6.out)
  have P1' := Lib.hid (((((P1.out.below B2.out).below B3.out).below B4.out).below B5.out).below B6.out)
  have RW : Hid (RowB w6 w.heap.size 25 #[.int .i64 6, .int .i64 x2, .int .i64 x3, .string x4, .int .i64 x5, .slice A k.len cap]) := R0.out.below y6 R0.out.lt
  have KW : Hid (KV w6 (fun g => g < B) k A cap) := HK.out.below BW.out
  have HL := Lib.hid hl
  have HS := Lib.hid hs
  clear b0 y2 y3 y4 y5 y6 P1 P2 P3 P4 P5 B1 B2 B3 B4 B5 B6 R0 HK hl hs
  have rc := RW.out.cell
  have BD : Hid (Below w.heap.size w w6.drew) := Below.drew BW.out
  have RD : Hid (RowB w6.drew w.heap.size 25 #[.int .i64 6, .int .i64 x2, .int .i64 x3, .string x4, .int .i64 x5, .slice A k.len cap]) := RW.out
  have rd := RD.out.cell
  have KD : Hid (KV w6.drew (fun g => g < B) k A cap) := KW.out.below (Below.drew (Below.refl _ _))
  have hd6 : Below w6.heap.size w6 w6.drew := Below.drew (Below.refl _ _)
  have D1 := Lib.hid (P1'.out.below hd6)
  have D5 := Lib.hid (P5'.out.below hd6)
  have D6 := Lib.hid (P6.out.below hd6)
  clear hd6
  have C51 := Lib.hid (is_new B w6.drew [7, 8, 9, 10, 11, 12, 13] 7 w6.heap.size rfl #[.int .i64 7, .int .i64 8, .int .i64 9, .int .i64 10, .int .i64 11, .int .i64 12, .int .i64 13] rfl rfl (by decide))
  have HS0 := rd
  have HSA := (RD.out.alloc (.cells #[.int .i64 7, .int .i64 8, .int .i64 9, .int .i64 10, .int .i64 11, .int .i64 12, .int .i64 13] 3)).cell
  go_wp2_with fail
  go_region_held3 (fun w' => ∀ j, w'.cell? ⟨w.heap.size, j, none⟩ = #[.int .i64 6, .int .i64 x2, .int .i64 x3, .string x4, .int .i64 x5, .slice A k.len cap][j]?)
    (first
      | (with_reducible exact HS2)
      | (with_reducible exact HSB)
      | (with_reducible exact HS1)
      | (with_reducible exact HS0)
      | (with_reducible exact HSA)
      | exact HSB
      | exact HSA)
    (first
    | (go_at_call 51; refine (C51.out).mono ?_; rintro e w7 ⟨u, rfl, hp7, hb7⟩; obtain ⟨F7, c7, rfl⟩ := hp7.form; have B7 := Lib.hid (BD.out.trans (hb7.mono BD.out.size)); have K7 := Lib.hid (KD.out.below hb7); have RR := Lib.hid (RD.out.below hb7 RD.out.lt); have r7 := RR.out.cell; have P7 := Lib.hid hp7; clear hp7 hb7; have HS1 := r7)
    | (go_at_call 31; refine (eachk B w7 (.func (.func F7) #[] c7) _ k A cap k.len P7.out K7.out (fun x hx => by have := HS.out x hx; simp; omega) HL.out rfl).mono ?_; rintro e w9 ⟨rfl, h9⟩; have HF := Lib.hid (B7.out.trans (h9.mono B7.out.size)); have HS2 := (RR.out.below h9 RR.out.lt).cell; clear h9)
    | fail)
  go_wp2
  (first | go_ret | go_ret2)
  exact ⟨rfl, HF.out⟩
theorem kids26 (B : Nat) (w : World) (x2 x3 : Nat) (x4 : ByteArray) (x5 : Nat) (k : Fo) (A : Option Addr) (cap : Nat) (hk : KV w (fun g => g < B) k A cap) (hs : shp 26 k.kinds) (hl : k.len ≤ 1000001) :
    Calls Tryz.prog 30 #[.agg #[.int .i64 26, .int .i64 x2, .int .i64 x3, .string x4, .int .i64 x5, .slice A k.len cap]] w fun e w' => e = .returned (.bool true) ∧ Below w.heap.size w w' := by
  have R0 := Lib.hid (RowB.new w 25 #[.int .i64 26, .int .i64 x2, .int .i64 x3, .string x4, .int .i64 x5, .slice A k.len cap])
  have HK := Lib.hid hk
  clear hk
  go_enter Tryz.func30, Tryz.ntmps30
  have C := Lib.hid (upto_any B (w.alloc (.cells #[.int .i64 26, .int .i64 x2, .int .i64 x3, .string x4, .int .i64 x5, .slice A k.len cap] 25)) 3 3 rfl)
  go_wp2_with fail
  refine C.out.mono ?_
  rintro e w1 ⟨v, rfl, hp, hb⟩
  obtain ⟨F1, c1, rfl⟩ := hp.form
  have B1 := Lib.hid hb
  have P1 := Lib.hid hp
  clear C hp hb
  have C := Lib.hid (upto_any B w1 2 2 rfl)
  go_wp2_with fail
  refine C.out.mono ?_
  rintro e w2 ⟨v, rfl, hp, hb⟩
  obtain ⟨F2, c2, rfl⟩ := hp.form
  have B2 := Lib.hid hb
  have P2 := Lib.hid hp
  clear C hp hb
  have C := Lib.hid (upto_any B w2 1 1 rfl)
  go_wp2_with fail
  refine C.out.mono ?_
  rintro e w3 ⟨v, rfl, hp, hb⟩
  obtain ⟨F3, c3, rfl⟩ := hp.form
  have B3 := Lib.hid hb
  have P3 := Lib.hid hp
  clear C hp hb
  have C := Lib.hid (upto_any B w3 0 0 rfl)
  go_wp2_with fail
  refine C.out.mono ?_
  rintro e w4 ⟨v, rfl, hp, hb⟩
  obtain ⟨F4, c4, rfl⟩ := hp.form
  have B4 := Lib.hid hb
  have P4 := Lib.hid hp
  clear C hp hb
  have C := Lib.hid (is_new B w4 [4] 1 w4.heap.size rfl #[.int .i64 4] rfl rfl (by decide))
  go_wp2_with fail
  refine C.out.mono ?_
  rintro e w5 ⟨v, rfl, hp, hb⟩
  obtain ⟨F5, c5, rfl⟩ := hp.form
  have B5 := Lib.hid hb
  have P5 := Lib.hid hp
  clear C hp hb
  have C := Lib.hid (is_new B w5 [6] 1 w5.heap.size rfl #[.int .i64 6] rfl rfl (by decide))
  go_wp2_with fail
  refine C.out.mono ?_
  rintro e w6 ⟨v, rfl, hp, hb⟩
  obtain ⟨F6, c6, rfl⟩ := hp.form
  have B6 := Lib.hid hb
  have P6 := Lib.hid hp
  clear C hp hb
  have b0 : Below w.heap.size w (w.alloc (.cells #[.int .i64 26, .int .i64 x2, .int .i64 x3, .string x4, .int .i64 x5, .slice A k.len cap] 25)) := bel1 w _
  have y2 := B1.out.trans (B2.out.mono B1.out.size)
  have y3 := y2.trans (B3.out.mono y2.size)
  have y4 := y3.trans (B4.out.mono y3.size)
  have y5 := y4.trans (B5.out.mono y4.size)
  have y6 := y5.trans (B6.out.mono y5.size)
  have BW : Hid (Below w.heap.size w w6) := b0.trans (y6.mono b0.size)
  have P5' := Lib.hid (P5.out.below B6.out)
  have P4' := Lib.hid ((P4.out.below B5.out).below B6.out)
  have P3' := Lib.hid (((P3.out.below B4.out).below B5.out).below B6.out)
  have P2' := Lib.hid ((((P2.out.below B3.out).below B4.out).below B5.out).below B6.out)
  have P1' := Lib.hid (((((P1.out.below B2.out).below B3.out).below B4.out).below B5.out).below B6.out)
  have RW : Hid (RowB w6 w.heap.size 25 #[.int .i64 26, .int .i64 x2, .int .i64 x3, .string x4, .int .i64 x5, .slice A k.len cap]) := R0.out.below y6 R0.out.lt
  have KW : Hid (KV w6 (fun g => g < B) k A cap) := HK.out.below BW.out
  have HL := Lib.hid hl
  have HS := Lib.hid hs
  clear b0 y2 y3 y4 y5 y6 P1 P2 P3 P4 P5 B1 B2 B3 B4 B5 B6 R0 HK hl hs
  have rc := RW.out.cell
  have BD : Hid (Below w.heap.size w w6.drew) := Below.drew BW.out
  have RD : Hid (RowB w6.drew w.heap.size 25 #[.int .i64 26, .int .i64 x2, .int .i64 x3, .string x4, .int .i64 x5, .slice A k.len cap]) := RW.out
  have rd := RD.out.cell
  have KD : Hid (KV w6.drew (fun g => g < B) k A cap) := KW.out.below (Below.drew (Below.refl _ _))
  have hd6 : Below w6.heap.size w6 w6.drew := Below.drew (Below.refl _ _)
  have D1 := Lib.hid (P1'.out.below hd6)
  have D5 := Lib.hid (P5'.out.below hd6)
  have D6 := Lib.hid (P6.out.below hd6)
  clear hd6
  have C51 := Lib.hid (is_new B w6.drew [27] 1 w6.heap.size rfl #[.int .i64 27] rfl rfl (by decide))
  have HS0 := rd
  have HSA := (RD.out.alloc (.cells #[.int .i64 27] 3)).cell
  go_wp2_with fail
  go_region_held3 (fun w' => ∀ j, w'.cell? ⟨w.heap.size, j, none⟩ = #[.int .i64 26, .int .i64 x2, .int .i64 x3, .string x4, .int .i64 x5, .slice A k.len cap][j]?)
    (first
      | (with_reducible exact HS2)
      | (with_reducible exact HSB)
      | (with_reducible exact HS1)
      | (with_reducible exact HS0)
      | (with_reducible exact HSA)
      | exact HSB
      | exact HSA)
    (first
    | (go_at_call 51; refine (C51.out).mono ?_; rintro e w7 ⟨u, rfl, hp7, hb7⟩; obtain ⟨F7, c7, rfl⟩ := hp7.form; have B7 := Lib.hid (BD.out.trans (hb7.mono BD.out.size)); have K7 := Lib.hid (KD.out.below hb7); have RR := Lib.hid (RD.out.below hb7 RD.out.lt); have r7 := RR.out.cell; have P7 := Lib.hid hp7; clear hp7 hb7; have HS1 := r7)
    | (go_at_call 31; refine (eachk B w7 (.func (.func F7) #[] c7) _ k A cap k.len P7.out K7.out (fun x hx => by have := HS.out x hx; simp; omega) HL.out rfl).mono ?_; rintro e w9 ⟨rfl, h9⟩; have HF := Lib.hid (B7.out.trans (h9.mono B7.out.size)); have HS2 := (RR.out.below h9 RR.out.lt).cell; clear h9)
    | fail)
  go_wp2
  (first | go_ret | go_ret2)
  exact ⟨rfl, HF.out⟩
theorem kids32 (B : Nat) (w : World) (x2 x3 : Nat) (x4 : ByteArray) (x5 : Nat) (k : Fo) (A : Option Addr) (cap : Nat) (hk : KV w (fun g => g < B) k A cap) (hs : shp 32 k.kinds) (hl : k.len ≤ 1000001) :
    Calls Tryz.prog 30 #[.agg #[.int .i64 32, .int .i64 x2, .int .i64 x3, .string x4, .int .i64 x5, .slice A k.len cap]] w fun e w' => e = .returned (.bool true) ∧ Below w.heap.size w w' := by
  have R0 := Lib.hid (RowB.new w 25 #[.int .i64 32, .int .i64 x2, .int .i64 x3, .string x4, .int .i64 x5, .slice A k.len cap])
  have HK := Lib.hid hk
  clear hk
  go_enter Tryz.func30, Tryz.ntmps30
  have C := Lib.hid (upto_any B (w.alloc (.cells #[.int .i64 32, .int .i64 x2, .int .i64 x3, .string x4, .int .i64 x5, .slice A k.len cap] 25)) 3 3 rfl)
  go_wp2_with fail
  refine C.out.mono ?_
  rintro e w1 ⟨v, rfl, hp, hb⟩
  obtain ⟨F1, c1, rfl⟩ := hp.form
  have B1 := Lib.hid hb
  have P1 := Lib.hid hp
  clear C hp hb
  have C := Lib.hid (upto_any B w1 2 2 rfl)
  go_wp2_with fail
  refine C.out.mono ?_
  rintro e w2 ⟨v, rfl, hp, hb⟩
  obtain ⟨F2, c2, rfl⟩ := hp.form
  have B2 := Lib.hid hb
  have P2 := Lib.hid hp
  clear C hp hb
  have C := Lib.hid (upto_any B w2 1 1 rfl)
  go_wp2_with fail
  refine C.out.mono ?_
  rintro e w3 ⟨v, rfl, hp, hb⟩
  obtain ⟨F3, c3, rfl⟩ := hp.form
  have B3 := Lib.hid hb
  have P3 := Lib.hid hp
  clear C hp hb
  have C := Lib.hid (upto_any B w3 0 0 rfl)
  go_wp2_with fail
  refine C.out.mono ?_
  rintro e w4 ⟨v, rfl, hp, hb⟩
  obtain ⟨F4, c4, rfl⟩ := hp.form
  have B4 := Lib.hid hb
  have P4 := Lib.hid hp
  clear C hp hb
  have C := Lib.hid (is_new B w4 [4] 1 w4.heap.size rfl #[.int .i64 4] rfl rfl (by decide))
  go_wp2_with fail
  refine C.out.mono ?_
  rintro e w5 ⟨v, rfl, hp, hb⟩
  obtain ⟨F5, c5, rfl⟩ := hp.form
  have B5 := Lib.hid hb
  have P5 := Lib.hid hp
  clear C hp hb
  have C := Lib.hid (is_new B w5 [6] 1 w5.heap.size rfl #[.int .i64 6] rfl rfl (by decide))
  go_wp2_with fail
  refine C.out.mono ?_
  rintro e w6 ⟨v, rfl, hp, hb⟩
  obtain ⟨F6, c6, rfl⟩ := hp.form
  have B6 := Lib.hid hb
  have P6 := Lib.hid hp
  clear C hp hb
  have b0 : Below w.heap.size w (w.alloc (.cells #[.int .i64 32, .int .i64 x2, .int .i64 x3, .string x4, .int .i64 x5, .slice A k.len cap] 25)) := bel1 w _
  have y2 := B1.out.trans (B2.out.mono B1.out.size)
  have y3 := y2.trans (B3.out.mono y2.size)
  have y4 := y3.trans (B4.out.mono y3.size)
  have y5 := y4.trans (B5.out.mono y4.size)
  have y6 := y5.trans (B6.out.mono y5.size)
  have BW : Hid (Below w.heap.size w w6) := b0.trans (y6.mono b0.size)
  have P5' := Lib.hid (P5.out.below B6.out)
  have P4' := Lib.hid ((P4.out.below B5.out).below B6.out)
  have P3' := Lib.hid (((P3.out.below B4.out).below B5.out).below B6.out)
  have P2' := Lib.hid ((((P2.out.below B3.out).below B4.out).below B5.out).below B6.out)
  have P1' := Lib.hid (((((P1.out.below B2.out).below B3.out).below B4.out).below B5.out).below B6.out)
  have RW : Hid (RowB w6 w.heap.size 25 #[.int .i64 32, .int .i64 x2, .int .i64 x3, .string x4, .int .i64 x5, .slice A k.len cap]) := R0.out.below y6 R0.out.lt
  have KW : Hid (KV w6 (fun g => g < B) k A cap) := HK.out.below BW.out
  have HL := Lib.hid hl
  have HS := Lib.hid hs
  clear b0 y2 y3 y4 y5 y6 P1 P2 P3 P4 P5 B1 B2 B3 B4 B5 B6 R0 HK hl hs
  have rc := RW.out.cell
  have BD : Hid (Below w.heap.size w w6.drew) := Below.drew BW.out
  have RD : Hid (RowB w6.drew w.heap.size 25 #[.int .i64 32, .int .i64 x2, .int .i64 x3, .string x4, .int .i64 x5, .slice A k.len cap]) := RW.out
  have rd := RD.out.cell
  have KD : Hid (KV w6.drew (fun g => g < B) k A cap) := KW.out.below (Below.drew (Below.refl _ _))
  have hd6 : Below w6.heap.size w6 w6.drew := Below.drew (Below.refl _ _)
  have D1 := Lib.hid (P1'.out.below hd6)
  have D5 := Lib.hid (P5'.out.below hd6)
  have D6 := Lib.hid (P6.out.below hd6)
  clear hd6
  have C51 := Lib.hid (is_new B w6.drew [33] 1 w6.heap.size rfl #[.int .i64 33] rfl rfl (by decide))
  have HS0 := rd
  have HSA := (RD.out.alloc (.cells #[.int .i64 33] 3)).cell
  go_wp2_with fail
  go_region_held3 (fun w' => ∀ j, w'.cell? ⟨w.heap.size, j, none⟩ = #[.int .i64 32, .int .i64 x2, .int .i64 x3, .string x4, .int .i64 x5, .slice A k.len cap][j]?)
    (first
      | (with_reducible exact HS2)
      | (with_reducible exact HSB)
      | (with_reducible exact HS1)
      | (with_reducible exact HS0)
      | (with_reducible exact HSA)
      | exact HSB
      | exact HSA)
    (first
    | (go_at_call 51; refine (C51.out).mono ?_; rintro e w7 ⟨u, rfl, hp7, hb7⟩; obtain ⟨F7, c7, rfl⟩ := hp7.form; have B7 := Lib.hid (BD.out.trans (hb7.mono BD.out.size)); have K7 := Lib.hid (KD.out.below hb7); have RR := Lib.hid (RD.out.below hb7 RD.out.lt); have r7 := RR.out.cell; have P7 := Lib.hid hp7; clear hp7 hb7; have HS1 := r7)
    | (go_at_call 31; refine (eachk B w7 (.func (.func F7) #[] c7) _ k A cap k.len P7.out K7.out (fun x hx => by have := HS.out x hx; simp; omega) HL.out rfl).mono ?_; rintro e w9 ⟨rfl, h9⟩; have HF := Lib.hid (B7.out.trans (h9.mono B7.out.size)); have HS2 := (RR.out.below h9 RR.out.lt).cell; clear h9)
    | fail)
  go_wp2
  (first | go_ret | go_ret2)
  exact ⟨rfl, HF.out⟩
end Pg
end Go.Proofs.YtiabkkdeonepgaaGreatDoor
namespace Go.Proofs.YtiabkkdeonepgaaGreatDoor
open Go.RowKit
namespace Pg
open Ps
theorem PartV.call {B : Nat} {F : Nat} {caps : Array Value} {Q : Hd → Fo → Prop} {b : Bool} {w : World} (h : PartV B (.func (.func F) #[] caps) Q b w) : (∀ v w, (callFunc F (#[v] ++ caps)).run Tryz.prog w = .ok (.enter F (#[v] ++ caps)) w) ∧
    ∀ w' h k A cap, Below w.heap.size w w' → KV w' (fun g => g < B) k A cap → Q h k → Calls Tryz.prog F (#[nvv h A k.len cap] ++ caps) w' fun e w2 => e = .returned (.bool b) ∧ Below w'.heap.size w' w2 := by
  obtain ⟨F', caps', e, h1, h2⟩ := h
  injection e with e1 e2 e3
  injection e1 with e1
  subst e1 e3
  exact ⟨h1, h2⟩
theorem kids20c (B : Nat) (w : World) (x2 x3 : Nat) (x4 : ByteArray) (x5 : Nat) (a1 a2 a3 : Nat) (a4 : ByteArray) (a5 : Nat) (ak r : Fo) (g o cap n2 : Nat) (hn2 : n2 = r.len + 1) (hB : B ≤ w.heap.size) (hk : KV w (fun g => g < B) (.cons ⟨a1, a2, a3, a4, a5⟩ ak r) (some ⟨g, o, none⟩) cap) (ua : up 0 a1) (ul : ∀ x ∈ r.kinds, up 3 x) (hl : n2 ≤ 1000001) :
    Calls Tryz.prog 30 #[.agg #[.int .i64 20, .int .i64 x2, .int .i64 x3, .string x4, .int .i64 x5, .slice (some ⟨g, o, none⟩) n2 cap]] w fun e w' => e = .returned (.bool true) ∧ Below w.heap.size w w' := by
  have hcap : r.len + 1 ≤ cap := hk.1
  have hlb := hl
  have e1 : IntKind.i64.wrap ((n2 : Int) - 1) = (r.len : Int) := by rw [IntKind.wrap_i64]; omega
  have i1 : (1 : Int) ≤ (n2 : Int) := by omega
  have i2 : (n2 : Int) ≤ (cap : Int) := by omega
  have i3 : (n2 : Int) > 0 := by omega
  have i4 : 0 < n2 := by omega
  have HN2 := Lib.hid hn2
  have HB0 := Lib.hid hB
  have HKT := Lib.hid (KV.tail hk)
  obtain ⟨g', o', ea, hg, hkid⟩ := KidAt.of hk (by simp [Fo.len])
  obtain ⟨Aa, ca, ka⟩ := hkid 0 _ _ _ rfl
  injection ea with ea
  injection ea with ea1 ea2
  subst ea1 ea2
  rw [show o + 0 * 6 = o by omega] at ka
  have Ka := Lib.hid ka
  clear ka hkid hn2 hcap hB
  have R0 := Lib.hid (RowB.new w 25 #[.int .i64 20, .int .i64 x2, .int .i64 x3, .string x4, .int .i64 x5, .slice (some ⟨g, o, none⟩) n2 cap])
  have HK := Lib.hid hk
  clear hk
  go_enter Tryz.func30, Tryz.ntmps30
  have C := Lib.hid (upto_any B (w.alloc (.cells #[.int .i64 20, .int .i64 x2, .int .i64 x3, .string x4, .int .i64 x5, .slice (some ⟨g, o, none⟩) n2 cap] 25)) 3 3 rfl)
  go_wp2_with fail
  refine C.out.mono ?_
  rintro e w1 ⟨v, rfl, hp, hb⟩
  obtain ⟨F1, c1, rfl⟩ := hp.form
  have B1 := Lib.hid hb
  have P1 := Lib.hid hp
  clear C hp hb
  have C := Lib.hid (upto_any B w1 2 2 rfl)
  go_wp2_with fail
  refine C.out.mono ?_
  rintro e w2 ⟨v, rfl, hp, hb⟩
  obtain ⟨F2, c2, rfl⟩ := hp.form
  have B2 := Lib.hid hb
  have P2 := Lib.hid hp
  clear C hp hb
  have C := Lib.hid (upto_any B w2 1 1 rfl)
  go_wp2_with fail
  refine C.out.mono ?_
  rintro e w3 ⟨v, rfl, hp, hb⟩
  obtain ⟨F3, c3, rfl⟩ := hp.form
  have B3 := Lib.hid hb
  have P3 := Lib.hid hp
  clear C hp hb
  have C := Lib.hid (upto_any B w3 0 0 rfl)
  go_wp2_with fail
  refine C.out.mono ?_
  rintro e w4 ⟨v, rfl, hp, hb⟩
  obtain ⟨F4, c4, rfl⟩ := hp.form
  have B4 := Lib.hid hb
  have P4 := Lib.hid hp
  clear C hp hb
  have C := Lib.hid (is_new B w4 [4] 1 w4.heap.size rfl #[.int .i64 4] rfl rfl (by decide))
  go_wp2_with fail
  refine C.out.mono ?_
  rintro e w5 ⟨v, rfl, hp, hb⟩
  obtain ⟨F5, c5, rfl⟩ := hp.form
  have B5 := Lib.hid hb
  have P5 := Lib.hid hp
  clear C hp hb
  have C := Lib.hid (is_new B w5 [6] 1 w5.heap.size rfl #[.int .i64 6] rfl rfl (by decide))
  go_wp2_with fail
  refine C.out.mono ?_
  rintro e w6 ⟨v, rfl, hp, hb⟩
  obtain ⟨F6, c6, rfl⟩ := hp.form
  have B6 := Lib.hid hb
  have P6 := Lib.hid hp
  clear C hp hb
  have b0 : Below w.heap.size w (w.alloc (.cells #[.int .i64 20, .int .i64 x2, .int .i64 x3, .string x4, .int .i64 x5, .slice (some ⟨g, o, none⟩) n2 cap] 25)) := bel1 w _
  have y2 := B1.out.trans (B2.out.mono B1.out.size)
  have y3 := y2.trans (B3.out.mono y2.size)
  have y4 := y3.trans (B4.out.mono y3.size)
  have y5 := y4.trans (B5.out.mono y4.size)
  have y6 := y5.trans (B6.out.mono y5.size)
  have BW : Hid (Below w.heap.size w w6) := b0.trans (y6.mono b0.size)
  have P5' := Lib.hid (P5.out.below B6.out)
  have P4' := Lib.hid ((P4.out.below B5.out).below B6.out)
  have P3' := Lib.hid (((P3.out.below B4.out).below B5.out).below B6.out)
  have P2' := Lib.hid ((((P2.out.below B3.out).below B4.out).below B5.out).below B6.out)
  have P1' := Lib.hid (((((P1.out.below B2.out).below B3.out).below B4.out).below B5.out).below B6.out)
  have RW : Hid (RowB w6 w.heap.size 25 #[.int .i64 20, .int .i64 x2, .int .i64 x3, .string x4, .int .i64 x5, .slice (some ⟨g, o, none⟩) n2 cap]) := R0.out.below y6 R0.out.lt
  have KW : Hid (KV w6 (fun g => g < B) (.cons ⟨a1, a2, a3, a4, a5⟩ ak r) (some ⟨g, o, none⟩) cap) := HK.out.below BW.out
  have HL := Lib.hid hl
  have HA := Lib.hid ua
  have HS := Lib.hid ul
  clear b0 y2 y3 y4 y5 y6 P1 P2 P3 P4 P5 B1 B2 B3 B4 B5 B6 R0 HK hl ua ul
  have rc := RW.out.cell
  have q := Ka.out.keep (BW.out.mono HB0.out)
  have m0 := q.c0
  have m1 := q.c1
  have m2 := q.c2
  have m3 := q.c3
  have m4 := q.c4
  have m5 := q.c5
  have Q4 := P4'.out.call
  have eV := Q4.1 (nvv ⟨a1, a2, a3, a4, a5⟩ Aa ak.len ca)
  have C := Lib.hid (Q4.2 w6 ⟨a1, a2, a3, a4, a5⟩ ak Aa ca (Below.refl _ _) q.kv HA.out)
  clear q Q4
  go_wp2_with fail
  refine C.out.mono ?_
  rintro e w7 ⟨rfl, h7⟩
  have B7 := Lib.hid (BW.out.trans (h7.mono BW.out.size))
  have R7 := Lib.hid (RW.out.below h7 RW.out.lt)
  have E1 := Lib.hid (P1'.out.below h7)
  have K7 := Lib.hid ((HKT.out.below BW.out).below h7)
  clear h7 C rc m0 m1 m2 m3 m4 m5 eV
  have rc := R7.out.cell
  go_wp2_with fail
  · have hr0 : r.len = 0 := by have := HN2.out; omega
    rw [show n2 - 1 = r.len by have := HN2.out; omega]
    refine (eachk B w7 (.func (.func F1) #[] c1) (up 3) r (some ⟨g, o, none⟩) 0 r.len E1.out ⟨by omega, fun h0 => absurd h0 (by omega)⟩ HS.out (by omega) rfl).mono ?_
    rintro e w9 ⟨rfl, h9⟩
    have HF := Lib.hid (B7.out.trans (h9.mono B7.out.size))
    clear h9 rc
    go_wp2_with fail
    (first | go_ret | go_ret2)
    exact ⟨rfl, HF.out⟩
  · rw [show n2 - 1 = r.len by have := HN2.out; omega]
    refine (eachk B w7 (.func (.func F1) #[] c1) (up 3) r (some ⟨g, o + 6, none⟩) (cap - 1) r.len E1.out K7.out HS.out (by have := HN2.out; omega) rfl).mono ?_
    rintro e w9 ⟨rfl, h9⟩
    have HF := Lib.hid (B7.out.trans (h9.mono B7.out.size))
    clear h9 rc
    go_wp2_with fail
    (first | go_ret | go_ret2)
    exact ⟨rfl, HF.out⟩
end Pg
end Go.Proofs.YtiabkkdeonepgaaGreatDoor
namespace Go.Proofs.YtiabkkdeonepgaaGreatDoor
open Go.RowKit
namespace Pg
open Ps
theorem shp_le {x : Nat} {ks : List Nat} (h : shp x ks) : x ≤ 34 := by
  rcases Nat.lt_or_ge 34 x with h1 | h1
  · exfalso
    obtain ⟨n, rfl⟩ : ∃ n, x = n + 35 := ⟨x - 35, by omega⟩
    simp [shp] at h
  · exact h1
theorem kids_any (B : Nat) (w : World) (h : Hd) (k : Fo) (A : Option Addr) (cap : Nat) (hB : B ≤ w.heap.size) (hk : KV w (fun g => g < B) k A cap) (hs : shp h.kind k.kinds) (hl : k.len ≤ 1000001) :
    Calls Tryz.prog 30 #[nvv h A k.len cap] w fun e w' => e = .returned (.bool true) ∧ Below w.heap.size w w' := by
  obtain ⟨x1, h2, h3, h4, h5⟩ := h
  dsimp only at hs
  have hx := shp_le hs
  rcases (by omega : x1 = 0 ∨ x1 = 1 ∨ x1 = 2 ∨ x1 = 3 ∨ x1 = 4 ∨ x1 = 5 ∨ x1 = 6 ∨ x1 = 7 ∨ x1 = 8 ∨ x1 = 9 ∨ x1 = 10 ∨ x1 = 11 ∨ x1 = 12 ∨ x1 = 13 ∨ x1 = 14 ∨ x1 = 15 ∨ x1 = 16 ∨ x1 = 17 ∨ x1 = 18 ∨ x1 = 19 ∨ x1 = 20 ∨ x1 = 21 ∨ x1 = 22 ∨ x1 = 23 ∨ x1 = 24 ∨ x1 = 25 ∨ x1 = 26 ∨ x1 = 27 ∨ x1 = 28 ∨ x1 = 29 ∨ x1 = 30 ∨ x1 = 31 ∨ x1 = 32 ∨ x1 = 33 ∨ x1 = 34) with rfl | rfl | rfl | rfl | rfl | rfl | rfl | rfl | rfl | rfl | rfl | rfl | rfl | rfl | rfl | rfl | rfl | rfl | rfl | rfl | rfl | rfl | rfl | rfl | rfl | rfl | rfl | rfl | rfl | rfl | rfl | rfl | rfl | rfl | rfl
  · exact kids0 B w 0 h2 h3 h4 h5 k A cap hk (by omega) hs hl
  · exact kids1 B w h2 h3 h4 h5 k A cap hk hs hl
  · exact kids2 B w h2 h3 h4 h5 k A cap hk hs hl
  · exact kids3 B w h2 h3 h4 h5 k A cap hk hs hl
  · exact kids4 B w h2 h3 h4 h5 k A cap hk hs hl
  · exact kids5 B w h2 h3 h4 h5 k A cap hk hs hl
  · exact kids6 B w h2 h3 h4 h5 k A cap hk hs hl
  · exact kids7 B w h2 h3 h4 h5 k A cap hk hs hl
  · exact kids8 B w h2 h3 h4 h5 k A cap hk hs hl
  · exact kids9 B w h2 h3 h4 h5 k A cap hk hs hl
  · exact kids10 B w h2 h3 h4 h5 k A cap hk hs hl
  · exact kids11 B w h2 h3 h4 h5 k A cap hk hs hl
  · exact kids12 B w h2 h3 h4 h5 k A cap hk hs hl
  · exact kids13 B w h2 h3 h4 h5 k A cap hk hs hl
  · exact kids14 B w h2 h3 h4 h5 k A cap hk hs hl
  · exact kids15 B w h2 h3 h4 h5 k A cap hk hs hl
  · exact kids16 B w h2 h3 h4 h5 k A cap hk hs hl
  · exact kids17 B w h2 h3 h4 h5 k A cap hk hs hl
  · exact kids18 B w h2 h3 h4 h5 k A cap hk hs hl
  · exact kids19 B w h2 h3 h4 h5 k A cap hk hs hl
  · obtain ⟨ta, tl, hks, ua, ul⟩ := (hs : ∃ a l, k.kinds = a :: l ∧ up 0 a ∧ ∀ x ∈ l, up 3 x)
    obtain ⟨a, ak, r, rfl, rfl, rfl⟩ := kindsC hks
    obtain ⟨g, o, rfl, hg, hkid⟩ := KidAt.of hk (by simp [Fo.len])
    clear hkid hks
    obtain ⟨a1, a2, a3, a4, a5⟩ := a
    exact kids20c B w h2 h3 h4 h5 a1 a2 a3 a4 a5 ak r g o cap (r.len + 1) rfl hB hk ua ul hl
  · exact kids0 B w 21 h2 h3 h4 h5 k A cap hk (by omega) hs hl
  · exact kids0 B w 22 h2 h3 h4 h5 k A cap hk (by omega) hs hl
  · exact kids0 B w 23 h2 h3 h4 h5 k A cap hk (by omega) hs hl
  · exact kids0 B w 24 h2 h3 h4 h5 k A cap hk (by omega) hs hl
  · exact kids25 B w h2 h3 h4 h5 k A cap hk hs hl
  · exact kids26 B w h2 h3 h4 h5 k A cap hk hs hl
  · exact kids27 B w h2 h3 h4 h5 k A cap hk hs hl
  · exact kids28 B w h2 h3 h4 h5 k A cap hk hs hl
  · exact kids0 B w 29 h2 h3 h4 h5 k A cap hk (by omega) hs hl
  · exact kids0 B w 30 h2 h3 h4 h5 k A cap hk (by omega) hs hl
  · exact kids0 B w 31 h2 h3 h4 h5 k A cap hk (by omega) hs hl
  · exact kids32 B w h2 h3 h4 h5 k A cap hk hs hl
  · exact kids33 B w h2 h3 h4 h5 k A cap hk hs hl
  · exact kids34 B w h2 h3 h4 h5 k A cap hk hs hl
end Pg
end Go.Proofs.YtiabkkdeonepgaaGreatDoor
