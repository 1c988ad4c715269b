import Derived.Deep.RegionHeld3
import Derived.Test.YtiabkkdeonepgaaGreatDoorXX
set_option maxRecDepth 100000
namespace Go.Proofs.YtiabkkdeonepgaaGreatDoor
open Go.RowKit
namespace Pg
open Ps
set_option maxHeartbeats 4000000 in
theorem kids8 (B : Nat) (w : World) (x2 x3 : Nat) (x4 : ByteArray) (x5 : Nat) (k : Fo) (A : Option Addr) (cap : Nat) (hk : KV w (fun g => g < B) k A cap) (hs : shp 8 k.kinds) (hl : k.len ≤ 1000001) :
    Calls Tryz.prog 30 #[.agg #[.int .i64 8, .int .i64 x2, .int .i64 x3, .string x4, .int .i64 x5, .slice A k.len cap]] w fun e w' => e = .returned (.bool true) ∧ Below w.heap.size w w' := by
  have R0 := Lib.hid (RowB.new w 25 #[.int .i64 8, .int .i64 x2, .int .i64 x3, .string x4, .int .i64 x5, .slice A k.len cap])
  have HK := Lib.hid hk
  clear hk
  go_enter Tryz.func30, Tryz.ntmps30
  have C := Lib.hid (upto_any B (w.alloc (.cells #[.int .i64 8, .int .i64 x2, .int .i64 x3, .string x4, .int .i64 x5, .slice A k.len cap] 25)) 3 3 rfl)
  go_wp2_with fail
  refine C.out.mono ?_
  rintro e w1 ⟨v, rfl, hp, hb⟩
  obtain ⟨F1, c1, rfl⟩ := hp.form
  have B1 := Lib.hid hb
  have P1 := Lib.hid hp
  clear C hp hb
  have C := Lib.hid (upto_any B w1 2 2 rfl)
  go_wp2_with fail
  refine C.out.mono ?_
  rintro e w2 ⟨v, rfl, hp, hb⟩
  obtain ⟨F2, c2, rfl⟩ := hp.form
  have B2 := Lib.hid hb
  have P2 := Lib.hid hp
  clear C hp hb
  have C := Lib.hid (upto_any B w2 1 1 rfl)
  go_wp2_with fail
  refine C.out.mono ?_
  rintro e w3 ⟨v, rfl, hp, hb⟩
  obtain ⟨F3, c3, rfl⟩ := hp.form
  have B3 := Lib.hid hb
  have P3 := Lib.hid hp
  clear C hp hb
  have C := Lib.hid (upto_any B w3 0 0 rfl)
  go_wp2_with fail
  refine C.out.mono ?_
  rintro e w4 ⟨v, rfl, hp, hb⟩
  obtain ⟨F4, c4, rfl⟩ := hp.form
  have B4 := Lib.hid hb
  have P4 := Lib.hid hp
  clear C hp hb
  have C := Lib.hid (is_new B w4 [4] 1 w4.heap.size rfl #[.int .i64 4] rfl rfl (by decide))
  go_wp2_with fail
  refine C.out.mono ?_
  rintro e w5 ⟨v, rfl, hp, hb⟩
  obtain ⟨F5, c5, rfl⟩ := hp.form
  have B5 := Lib.hid hb
  have P5 := Lib.hid hp
  clear C hp hb
  have C := Lib.hid (is_new B w5 [6] 1 w5.heap.size rfl #[.int .i64 6] rfl rfl (by decide))
  go_wp2_with fail
  refine C.out.mono ?_
  rintro e w6 ⟨v, rfl, hp, hb⟩
  obtain ⟨F6, c6, rfl⟩ := hp.form
  have B6 := Lib.hid hb
  have P6 := Lib.hid hp
  clear C hp hb
  have b0 : Below w.heap.size w (w.alloc (.cells #[.int .i64 8, .int .i64 x2, .int .i64 x3, .string x4, .int .i64 x5, .slice A k.len cap] 25)) := bel1 w _
  have y2 := B1.out.trans (B2.out.mono B1.out.size)
  have y3 := y2.trans (B3.out.mono y2.size)
  have y4 := y3.trans (B4.out.mono y3.size)
  have y5 := y4.trans (B5.out.mono y4.size)
  have y6 := y5.trans (B6.out.mono y5.size)
  have BW : Hid (Below w.heap.size w w6) := b0.trans (y6.mono b0.size)
  have P5' := Lib.hid (P5.out.below B6.out)
  have P4' := Lib.hid ((P4.out.below B5.out).below B6.out)
  have P3' := Lib.hid (((P3.out.below B4.out).below B5.out).below B6.out)
  have P2' := Lib.hid ((((P2.out.below B3.out).below B4.out).below B5.out).below B6.out)
  have P1' := Lib.hid (((((P1.out.below B2.out).below B3.out).below B4.out).below B5.out).below B6.out)
  have RW : Hid (RowB w6 w.heap.size 25 #[.int .i64 8, .int .i64 x2, .int .i64 x3, .string x4, .int .i64 x5, .slice A k.len cap]) := R0.out.below y6 R0.out.lt
  have KW : Hid (KV w6 (fun g => g < B) k A cap) := HK.out.below BW.out
  have HL := Lib.hid hl
  have HS := Lib.hid hs
  clear b0 y2 y3 y4 y5 y6 P1 P2 P3 P4 P5 B1 B2 B3 B4 B5 B6 R0 HK hl hs
  have rc := RW.out.cell
  obtain ⟨a0, hks, h0⟩ := HS.out
  have C := Lib.hid (fit1 B w6 (.func (.func F1) #[] c1) (up 3) a0 w6.heap.size rfl k A cap k.len hks rfl KW.out P1'.out h0)
  clear h0 hks
  go_wp2_with fail
  refine C.out.mono ?_
  rintro e w9 ⟨rfl, h9⟩
  have HF := Lib.hid (BW.out.trans (h9.mono BW.out.size))
  clear h9 C
  go_wp2_with fail
  (first | go_ret | go_ret2)
  exact ⟨rfl, HF.out⟩
set_option maxHeartbeats 4000000 in
theorem kids11 (B : Nat) (w : World) (x2 x3 : Nat) (x4 : ByteArray) (x5 : Nat) (k : Fo) (A : Option Addr) (cap : Nat) (hk : KV w (fun g => g < B) k A cap) (hs : shp 11 k.kinds) (hl : k.len ≤ 1000001) :
    Calls Tryz.prog 30 #[.agg #[.int .i64 11, .int .i64 x2, .int .i64 x3, .string x4, .int .i64 x5, .slice A k.len cap]] w fun e w' => e = .returned (.bool true) ∧ Below w.heap.size w w' := by
  have R0 := Lib.hid (RowB.new w 25 #[.int .i64 11, .int .i64 x2, .int .i64 x3, .string x4, .int .i64 x5, .slice A k.len cap])
  have HK := Lib.hid hk
  clear hk
  go_enter Tryz.func30, Tryz.ntmps30
  have C := Lib.hid (upto_any B (w.alloc (.cells #[.int .i64 11, .int .i64 x2, .int .i64 x3, .string x4, .int .i64 x5, .slice A k.len cap] 25)) 3 3 rfl)
  go_wp2_with fail
  refine C.out.mono ?_
  rintro e w1 ⟨v, rfl, hp, hb⟩
  obtain ⟨F1, c1, rfl⟩ := hp.form
  have B1 := Lib.hid hb
  have P1 := Lib.hid hp
  clear C hp hb
  have C := Lib.hid (upto_any B w1 2 2 rfl)
  go_wp2_with fail
  refine C.out.mono ?_
  rintro e w2 ⟨v, rfl, hp, hb⟩
  obtain ⟨F2, c2, rfl⟩ := hp.form
  have B2 := Lib.hid hb
  have P2 := Lib.hid hp
  clear C hp hb
  have C := Lib.hid (upto_any B w2 1 1 rfl)
  go_wp2_with fail
  refine C.out.mono ?_
  rintro e w3 ⟨v, rfl, hp, hb⟩
  obtain ⟨F3, c3, rfl⟩ := hp.form
  have B3 := Lib.hid hb
  have P3 := Lib.hid hp
  clear C hp hb
  have C := Lib.hid (upto_any B w3 0 0 rfl)
  go_wp2_with fail
  refine C.out.mono ?_
  rintro e w4 ⟨v, rfl, hp, hb⟩
  obtain ⟨F4, c4, rfl⟩ := hp.form
  have B4 := Lib.hid hb
  have P4 := Lib.hid hp
  clear C hp hb
  have C := Lib.hid (is_new B w4 [4] 1 w4.heap.size rfl #[.int .i64 4] rfl rfl (by decide))
  go_wp2_with fail
  refine C.out.mono ?_
  rintro e w5 ⟨v, rfl, hp, hb⟩
  obtain ⟨F5, c5, rfl⟩ := hp.form
  have B5 := Lib.hid hb
  have P5 := Lib.hid hp
  clear C hp hb
  have C := Lib.hid (is_new B w5 [6] 1 w5.heap.size rfl #[.int .i64 6] rfl rfl (by decide))
  go_wp2_with fail
  refine C.out.mono ?_
  rintro e w6 ⟨v, rfl, hp, hb⟩
  obtain ⟨F6, c6, rfl⟩ := hp.form
  have B6 := Lib.hid hb
  have P6 := Lib.hid hp
  clear C hp hb
  have b0 : Below w.heap.size w (w.alloc (.cells #[.int .i64 11, .int .i64 x2, .int .i64 x3, .string x4, .int .i64 x5, .slice A k.len cap] 25)) := bel1 w _
  have y2 := B1.out.trans (B2.out.mono B1.out.size)
  have y3 := y2.trans (B3.out.mono y2.size)
  have y4 := y3.trans (B4.out.mono y3.size)
  have y5 := y4.trans (B5.out.mono y4.size)
  have y6 := y5.trans (B6.out.mono y5.size)
  have BW : Hid (Below w.heap.size w w6) := b0.trans (y6.mono b0.size)
  have P5' := Lib.hid (P5.out.below B6.out)
  have P4' := Lib.hid ((P4.out.below B5.out).below B6.out)
  have P3' := Lib.hid (((P3.out.below B4.out).below B5.out).below B6.out)
  have P2' := Lib.hid ((((P2.out.below B3.out).below B4.out).below B5.out).below B6.out)
  have P1' := Lib.hid (((((P1.out.below B2.out).below B3.out).below B4.out).below B5.out).below B6.out)
  have RW : Hid (RowB w6 w.heap.size 25 #[.int .i64 11, .int .i64 x2, .int .i64 x3, .string x4, .int .i64 x5, .slice A k.len cap]) := R0.out.below y6 R0.out.lt
  have KW : Hid (KV w6 (fun g => g < B) k A cap) := HK.out.below BW.out
  have HL := Lib.hid hl
  have HS := Lib.hid hs
  clear b0 y2 y3 y4 y5 y6 P1 P2 P3 P4 P5 B1 B2 B3 B4 B5 B6 R0 HK hl hs
  have rc := RW.out.cell
  obtain ⟨a0, hks, h0⟩ := HS.out
  have C := Lib.hid (fit1 B w6 (.func (.func F1) #[] c1) (up 3) a0 w6.heap.size rfl k A cap k.len hks rfl KW.out P1'.out h0)
  clear h0 hks
  go_wp2_with fail
  refine C.out.mono ?_
  rintro e w9 ⟨rfl, h9⟩
  have HF := Lib.hid (BW.out.trans (h9.mono BW.out.size))
  clear h9 C
  go_wp2_with fail
  (first | go_ret | go_ret2)
  exact ⟨rfl, HF.out⟩
set_option maxHeartbeats 4000000 in
theorem kids12 (B : Nat) (w : World) (x2 x3 : Nat) (x4 : ByteArray) (x5 : Nat) (k : Fo) (A : Option Addr) (cap : Nat) (hk : KV w (fun g => g < B) k A cap) (hs : shp 12 k.kinds) (hl : k.len ≤ 1000001) :
    Calls Tryz.prog 30 #[.agg #[.int .i64 12, .int .i64 x2, .int .i64 x3, .string x4, .int .i64 x5, .slice A k.len cap]] w fun e w' => e = .returned (.bool true) ∧ Below w.heap.size w w' := by
  have R0 := Lib.hid (RowB.new w 25 #[.int .i64 12, .int .i64 x2, .int .i64 x3, .string x4, .int .i64 x5, .slice A k.len cap])
  have HK := Lib.hid hk
  clear hk
  go_enter Tryz.func30, Tryz.ntmps30
  have C := Lib.hid (upto_any B (w.alloc (.cells #[.int .i64 12, .int .i64 x2, .int .i64 x3, .string x4, .int .i64 x5, .slice A k.len cap] 25)) 3 3 rfl)
  go_wp2_with fail
  refine C.out.mono ?_
  rintro e w1 ⟨v, rfl, hp, hb⟩
  obtain ⟨F1, c1, rfl⟩ := hp.form
  have B1 := Lib.hid hb
  have P1 := Lib.hid hp
  clear C hp hb
  have C := Lib.hid (upto_any B w1 2 2 rfl)
  go_wp2_with fail
  refine C.out.mono ?_
  rintro e w2 ⟨v, rfl, hp, hb⟩
  obtain ⟨F2, c2, rfl⟩ := hp.form
  have B2 := Lib.hid hb
  have P2 := Lib.hid hp
  clear C hp hb
  have C := Lib.hid (upto_any B w2 1 1 rfl)
  go_wp2_with fail
  refine C.out.mono ?_
  rintro e w3 ⟨v, rfl, hp, hb⟩
  obtain ⟨F3, c3, rfl⟩ := hp.form
  have B3 := Lib.hid hb
  have P3 := Lib.hid hp
  clear C hp hb
  have C := Lib.hid (upto_any B w3 0 0 rfl)
  go_wp2_with fail
  refine C.out.mono ?_
  rintro e w4 ⟨v, rfl, hp, hb⟩
  obtain ⟨F4, c4, rfl⟩ := hp.form
  have B4 := Lib.hid hb
  have P4 := Lib.hid hp
  clear C hp hb
  have C := Lib.hid (is_new B w4 [4] 1 w4.heap.size rfl #[.int .i64 4] rfl rfl (by decide))
  go_wp2_with fail
  refine C.out.mono ?_
  rintro e w5 ⟨v, rfl, hp, hb⟩
  obtain ⟨F5, c5, rfl⟩ := hp.form
  have B5 := Lib.hid hb
  have P5 := Lib.hid hp
  clear C hp hb
  have C := Lib.hid (is_new B w5 [6] 1 w5.heap.size rfl #[.int .i64 6] rfl rfl (by decide))
  go_wp2_with fail
  refine C.out.mono ?_
  rintro e w6 ⟨v, rfl, hp, hb⟩
  obtain ⟨F6, c6, rfl⟩ := hp.form
  have B6 := Lib.hid hb
  have P6 := Lib.hid hp
  clear C hp hb
  have b0 : Below w.heap.size w (w.alloc (.cells #[.int .i64 12, .int .i64 x2, .int .i64 x3, .string x4, .int .i64 x5, .slice A k.len cap] 25)) := bel1 w _
  have y2 := B1.out.trans (B2.out.mono B1.out.size)
  have y3 := y2.trans (B3.out.mono y2.size)
  have y4 := y3.trans (B4.out.mono y3.size)
  have y5 := y4.trans (B5.out.mono y4.size)
  have y6 := y5.trans (B6.out.mono y5.size)
  have BW : Hid (Below w.heap.size w w6) := b0.trans (y6.mono b0.size)
  have P5' := Lib.hid (P5.out.below B6.out)
  have P4' := Lib.hid ((P4.out.below B5.out).below B6.out)
  have P3' := Lib.hid (((P3.out.below B4.out).below B5.out).below B6.out)
  have P2' := Lib.hid ((((P2.out.below B3.out).below B4.out).below B5.out).below B6.out)
  have P1' := Lib.hid (((((P1.out.below B2.out).below B3.out).below B4.out).below B5.out).below B6.out)
  have RW : Hid (RowB w6 w.heap.size 25 #[.int .i64 12, .int .i64 x2, .int .i64 x3, .string x4, .int .i64 x5, .slice A k.len cap]) := R0.out.below y6 R0.out.lt
  have KW : Hid (KV w6 (fun g => g < B) k A cap) := HK.out.below BW.out
  have HL := Lib.hid hl
  have HS := Lib.hid hs
  clear b0 y2 y3 y4 y5 y6 P1 P2 P3 P4 P5 B1 B2 B3 B4 B5 B6 R0 HK hl hs
  have rc := RW.out.cell
  obtain ⟨a0, hks, h0⟩ := HS.out
  have C := Lib.hid (fit1 B w6 (.func (.func F1) #[] c1) (up 3) a0 w6.heap.size rfl k A cap k.len hks rfl KW.out P1'.out h0)
  clear h0 hks
  go_wp2_with fail
  refine C.out.mono ?_
  rintro e w9 ⟨rfl, h9⟩
  have HF := Lib.hid (BW.out.trans (h9.mono BW.out.size))
  clear h9 C
  go_wp2_with fail
  (first | go_ret | go_ret2)
  exact ⟨rfl, HF.out⟩
set_option maxHeartbeats 4000000 in
theorem kids13 (B : Nat) (w : World) (x2 x3 : Nat) (x4 : ByteArray) (x5 : Nat) (k : Fo) (A : Option Addr) (cap : Nat) (hk : KV w (fun g => g < B) k A cap) (hs : shp 13 k.kinds) (hl : k.len ≤ 1000001) :
    Calls Tryz.prog 30 #[.agg #[.int .i64 13, .int .i64 x2, .int .i64 x3, .string x4, .int .i64 x5, .slice A k.len cap]] w fun e w' => e = .returned (.bool true) ∧ Below w.heap.size w w' := by
  have R0 := Lib.hid (RowB.new w 25 #[.int .i64 13, .int .i64 x2, .int .i64 x3, .string x4, .int .i64 x5, .slice A k.len cap])
  have HK := Lib.hid hk
  clear hk
  go_enter Tryz.func30, Tryz.ntmps30
  have C := Lib.hid (upto_any B (w.alloc (.cells #[.int .i64 13, .int .i64 x2, .int .i64 x3, .string x4, .int .i64 x5, .slice A k.len cap] 25)) 3 3 rfl)
  go_wp2_with fail
  refine C.out.mono ?_
  rintro e w1 ⟨v, rfl, hp, hb⟩
  obtain ⟨F1, c1, rfl⟩ := hp.form
  have B1 := Lib.hid hb
  have P1 := Lib.hid hp
  clear C hp hb
  have C := Lib.hid (upto_any B w1 2 2 rfl)
  go_wp2_with fail
  refine C.out.mono ?_
  rintro e w2 ⟨v, rfl, hp, hb⟩
  obtain ⟨F2, c2, rfl⟩ := hp.form
  have B2 := Lib.hid hb
  have P2 := Lib.hid hp
  clear C hp hb
  have C := Lib.hid (upto_any B w2 1 1 rfl)
  go_wp2_with fail
  refine C.out.mono ?_
  rintro e w3 ⟨v, rfl, hp, hb⟩
  obtain ⟨F3, c3, rfl⟩ := hp.form
  have B3 := Lib.hid hb
  have P3 := Lib.hid hp
  clear C hp hb
  have C := Lib.hid (upto_any B w3 0 0 rfl)
  go_wp2_with fail
  refine C.out.mono ?_
  rintro e w4 ⟨v, rfl, hp, hb⟩
  obtain ⟨F4, c4, rfl⟩ := hp.form
  have B4 := Lib.hid hb
  have P4 := Lib.hid hp
  clear C hp hb
  have C := Lib.hid (is_new B w4 [4] 1 w4.heap.size rfl #[.int .i64 4] rfl rfl (by decide))
  go_wp2_with fail
  refine C.out.mono ?_
  rintro e w5 ⟨v, rfl, hp, hb⟩
  obtain ⟨F5, c5, rfl⟩ := hp.form
  have B5 := Lib.hid hb
  have P5 := Lib.hid hp
  clear C hp hb
  have C := Lib.hid (is_new B w5 [6] 1 w5.heap.size rfl #[.int .i64 6] rfl rfl (by decide))
  go_wp2_with fail
  refine C.out.mono ?_
  rintro e w6 ⟨v, rfl, hp, hb⟩
  obtain ⟨F6, c6, rfl⟩ := hp.form
  have B6 := Lib.hid hb
  have P6 := Lib.hid hp
  clear C hp hb
  have b0 : Below w.heap.size w (w.alloc (.cells #[.int .i64 13, .int .i64 x2, .int .i64 x3, .string x4, .int .i64 x5, .slice A k.len cap] 25)) := bel1 w _
  have y2 := B1.out.trans (B2.out.mono B1.out.size)
  have y3 := y2.trans (B3.out.mono y2.size)
  have y4 := y3.trans (B4.out.mono y3.size)
  have y5 := y4.trans (B5.out.mono y4.size)
  have y6 := y5.trans (B6.out.mono y5.size)
  have BW : Hid (Below w.heap.size w w6) := b0.trans (y6.mono b0.size)
  have P5' := Lib.hid (P5.out.below B6.out)
  have P4' := Lib.hid ((P4.out.below B5.out).below B6.out)
  have P3' := Lib.hid (((P3.out.below B4.out).below B5.out).below B6.out)
  have P2' := Lib.hid ((((P2.out.below B3.out).below B4.out).below B5.out).below B6.out)
  have P1' := Lib.hid (((((P1.out.below B2.out).below B3.out).below B4.out).below B5.out).below B6.out)
  have RW : Hid (RowB w6 w.heap.size 25 #[.int .i64 13, .int .i64 x2, .int .i64 x3, .string x4, .int .i64 x5, .slice A k.len cap]) := R0.out.below y6 R0.out.lt
  have KW : Hid (KV w6 (fun g => g < B) k A cap) := HK.out.below BW.out
  have HL := Lib.hid hl
  have HS := Lib.hid hs
  clear b0 y2 y3 y4 y5 y6 P1 P2 P3 P4 P5 B1 B2 B3 B4 B5 B6 R0 HK hl hs
  have rc := RW.out.cell
  obtain ⟨a0, hks, h0⟩ := HS.out
  have C := Lib.hid (fit1 B w6 (.func (.func F1) #[] c1) (up 3) a0 w6.heap.size rfl k A cap k.len hks rfl KW.out P1'.out h0)
  clear h0 hks
  go_wp2_with fail
  refine C.out.mono ?_
  rintro e w9 ⟨rfl, h9⟩
  have HF := Lib.hid (BW.out.trans (h9.mono BW.out.size))
  clear h9 C
  go_wp2_with fail
  (first | go_ret | go_ret2)
  exact ⟨rfl, HF.out⟩
set_option maxHeartbeats 4000000 in
theorem kids25 (B : Nat) (w : World) (x2 x3 : Nat) (x4 : ByteArray) (x5 : Nat) (k : Fo) (A : Option Addr) (cap : Nat) (hk : KV w (fun g => g < B) k A cap) (hs : shp 25 k.kinds) (hl : k.len ≤ 1000001) :
    Calls Tryz.prog 30 #[.agg #[.int .i64 25, .int .i64 x2, .int .i64 x3, .string x4, .int .i64 x5, .slice A k.len cap]] w fun e w' => e = .returned (.bool true) ∧ Below w.heap.size w w' := by
  have R0 := Lib.hid (RowB.new w 25 #[.int .i64 25, .int .i64 x2, .int .i64 x3, .string x4, .int .i64 x5, .slice A k.len cap])
  have HK := Lib.hid hk
  clear hk
  go_enter Tryz.func30, Tryz.ntmps30
  have C := Lib.hid (upto_any B (w.alloc (.cells #[.int .i64 25, .int .i64 x2, .int .i64 x3, .string x4, .int .i64 x5, .slice A k.len cap] 25)) 3 3 rfl)
  go_wp2_with fail
  refine C.out.mono ?_
  rintro e w1 ⟨v, rfl, hp, hb⟩
  obtain ⟨F1, c1, rfl⟩ := hp.form
  have B1 := Lib.hid hb
  have P1 := Lib.hid hp
  clear C hp hb
  have C := Lib.hid (upto_any B w1 2 2 rfl)
  go_wp2_with fail
  refine C.out.mono ?_
  rintro e w2 ⟨v, rfl, hp, hb⟩
  obtain ⟨F2, c2, rfl⟩ := hp.form
  have B2 := Lib.hid hb
  have P2 := Lib.hid hp
  clear C hp hb
  have C := Lib.hid (upto_any B w2 1 1 rfl)
  go_wp2_with fail
  refine C.out.mono ?_
  rintro e w3 ⟨v, rfl, hp, hb⟩
  obtain ⟨F3, c3, rfl⟩ := hp.form
  have B3 := Lib.hid hb
  have P3 := Lib.hid hp
  clear C hp hb
  have C := Lib.hid (upto_any B w3 0 0 rfl)
  go_wp2_with fail
  refine C.out.mono ?_
  rintro e w4 ⟨v, rfl, hp, hb⟩
  obtain ⟨F4, c4, rfl⟩ := hp.form
  have B4 := Lib.hid hb
  have P4 := Lib.hid hp
  clear C hp hb
  have C := Lib.hid (is_new B w4 [4] 1 w4.heap.size rfl #[.int .i64 4] rfl rfl (by decide))
  go_wp2_with fail
  refine C.out.mono ?_
  rintro e w5 ⟨v, rfl, hp, hb⟩
  obtain ⟨F5, c5, rfl⟩ := hp.form
  have B5 := Lib.hid hb
  have P5 := Lib.hid hp
  clear C hp hb
  have C := Lib.hid (is_new B w5 [6] 1 w5.heap.size rfl #[.int .i64 6] rfl rfl (by decide))
  go_wp2_with fail
  refine C.out.mono ?_
  rintro e w6 ⟨v, rfl, hp, hb⟩
  obtain ⟨F6, c6, rfl⟩ := hp.form
  have B6 := Lib.hid hb
  have P6 := Lib.hid hp
  clear C hp hb
  have b0 : Below w.heap.size w (w.alloc (.cells #[.int .i64 25, .int .i64 x2, .int .i64 x3, .string x4, .int .i64 x5, .slice A k.len cap] 25)) := bel1 w _
  have y2 := B1.out.trans (B2.out.mono B1.out.size)
  have y3 := y2.trans (B3.out.mono y2.size)
  have y4 := y3.trans (B4.out.mono y3.size)
  have y5 := y4.trans (B5.out.mono y4.size)
  have y6 := y5.trans (B6.out.mono y5.size)
  have BW : Hid (Below w.heap.size w w6) := b0.trans (y6.mono b0.size)
  have P5' := Lib.hid (P5.out.below B6.out)
  have P4' := Lib.hid ((P4.out.below B5.out).below B6.out)
  have P3' := Lib.hid (((P3.out.below B4.out).below B5.out).below B6.out)
  have P2' := Lib.hid ((((P2.out.below B3.out).below B4.out).below B5.out).below B6.out)
  have P1' := Lib.hid (((((P1.out.below B2.out).below B3.out).below B4.out).below B5.out).below B6.out)
  have RW : Hid (RowB w6 w.heap.size 25 #[.int .i64 25, .int .i64 x2, .int .i64 x3, .string x4, .int .i64 x5, .slice A k.len cap]) := R0.out.below y6 R0.out.lt
  have KW : Hid (KV w6 (fun g => g < B) k A cap) := HK.out.below BW.out
  have HL := Lib.hid hl
  have HS := Lib.hid hs
  clear b0 y2 y3 y4 y5 y6 P1 P2 P3 P4 P5 B1 B2 B3 B4 B5 B6 R0 HK hl hs
  have rc := RW.out.cell
  obtain ⟨a0, hks, h0⟩ := HS.out
  have C := Lib.hid (fit1 B w6 (.func (.func F1) #[] c1) (up 3) a0 w6.heap.size rfl k A cap k.len hks rfl KW.out P1'.out h0)
  clear h0 hks
  go_wp2_with fail
  refine C.out.mono ?_
  rintro e w9 ⟨rfl, h9⟩
  have HF := Lib.hid (BW.out.trans (h9.mono BW.out.size))
  clear h9 C
  go_wp2_with fail
  (first | go_ret | go_ret2)
  exact ⟨rfl, HF.out⟩
set_option maxHeartbeats 4000000 in
theorem kids27 (B : Nat) (w : World) (x2 x3 : Nat) (x4 : ByteArray) (x5 : Nat) (k : Fo) (A : Option Addr) (cap : Nat) (hk : KV w (fun g => g < B) k A cap) (hs : shp 27 k.kinds) (hl : k.len ≤ 1000001) :
    Calls Tryz.prog 30 #[.agg #[.int .i64 27, .int .i64 x2, .int .i64 x3, .string x4, .int .i64 x5, .slice A k.len cap]] w fun e w' => e = .returned (.bool true) ∧ Below w.heap.size w w' := by
  have R0 := Lib.hid (RowB.new w 25 #[.int .i64 27, .int .i64 x2, .int .i64 x3, .string x4, .int .i64 x5, .slice A k.len cap])
  have HK := Lib.hid hk
  clear hk
  go_enter Tryz.func30, Tryz.ntmps30
  have C := Lib.hid (upto_any B (w.alloc (.cells #[.int .i64 27, .int .i64 x2, .int .i64 x3, .string x4, .int .i64 x5, .slice A k.len cap] 25)) 3 3 rfl)
  go_wp2_with fail
  refine C.out.mono ?_
  rintro e w1 ⟨v, rfl, hp, hb⟩
  obtain ⟨F1, c1, rfl⟩ := hp.form
  have B1 := Lib.hid hb
  have P1 := Lib.hid hp
  clear C hp hb
  have C := Lib.hid (upto_any B w1 2 2 rfl)
  go_wp2_with fail
  refine C.out.mono ?_
  rintro e w2 ⟨v, rfl, hp, hb⟩
  obtain ⟨F2, c2, rfl⟩ := hp.form
  have B2 := Lib.hid hb
  have P2 := Lib.hid hp
  clear C hp hb
  have C := Lib.hid (upto_any B w2 1 1 rfl)
  go_wp2_with fail
  refine C.out.mono ?_
  rintro e w3 ⟨v, rfl, hp, hb⟩
  obtain ⟨F3, c3, rfl⟩ := hp.form
  have B3 := Lib.hid hb
  have P3 := Lib.hid hp
  clear C hp hb
  have C := Lib.hid (upto_any B w3 0 0 rfl)
  go_wp2_with fail
  refine C.out.mono ?_
  rintro e w4 ⟨v, rfl, hp, hb⟩
  obtain ⟨F4, c4, rfl⟩ := hp.form
  have B4 := Lib.hid hb
  have P4 := Lib.hid hp
  clear C hp hb
  have C := Lib.hid (is_new B w4 [4] 1 w4.heap.size rfl #[.int .i64 4] rfl rfl (by decide))
  go_wp2_with fail
  refine C.out.mono ?_
  rintro e w5 ⟨v, rfl, hp, hb⟩
  obtain ⟨F5, c5, rfl⟩ := hp.form
  have B5 := Lib.hid hb
  have P5 := Lib.hid hp
  clear C hp hb
  have C := Lib.hid (is_new B w5 [6] 1 w5.heap.size rfl #[.int .i64 6] rfl rfl (by decide))
  go_wp2_with fail
  refine C.out.mono ?_
  rintro e w6 ⟨v, rfl, hp, hb⟩
  obtain ⟨F6, c6, rfl⟩ := hp.form
  have B6 := Lib.hid hb
  have P6 := Lib.hid hp
  clear C hp hb
  have b0 : Below w.heap.size w (w.alloc (.cells #[.int .i64 27, .int .i64 x2, .int .i64 x3, .string x4, .int .i64 x5, .slice A k.len cap] 25)) := bel1 w _
  have y2 := B1.out.trans (B2.out.mono B1.out.size)
  have y3 := y2.trans (B3.out.mono y2.size)
  have y4 := y3.trans (B4.out.mono y3.size)
  have y5 := y4.trans (B5.out.mono y4.size)
  have y6 := y5.trans (B6.out.mono y5.size)
  have BW : Hid (Below w.heap.size w w6) := b0.trans (y6.mono b0.size)
  have P5' := Lib.hid (P5.out.below B6.out)
  have P4' := Lib.hid ((P4.out.below B5.out).below B6.out)
  have P3' := Lib.hid (((P3.out.below B4.out).below B5.out).below B6.out)
  have P2' := Lib.hid ((((P2.out.below B3.out).below B4.out).below B5.out).below B6.out)
  have P1' := Lib.hid (((((P1.out.below B2.out).below B3.out).below B4.out).below B5.out).below B6.out)
  have RW : Hid (RowB w6 w.heap.size 25 #[.int .i64 27, .int .i64 x2, .int .i64 x3, .string x4, .int .i64 x5, .slice A k.len cap]) := R0.out.below y6 R0.out.lt
  have KW : Hid (KV w6 (fun g => g < B) k A cap) := HK.out.below BW.out
  have HL := Lib.hid hl
  have HS := Lib.hid hs
  clear b0 y2 y3 y4 y5 y6 P1 P2 P3 P4 P5 B1 B2 B3 B4 B5 B6 R0 HK hl hs
  have rc := RW.out.cell
  obtain ⟨a0, hks, h0⟩ := HS.out
  have C := Lib.hid (fit1 B w6 (.func (.func F1) #[] c1) (up 3) a0 w6.heap.size rfl k A cap k.len hks rfl KW.out P1'.out h0)
  clear h0 hks
  go_wp2_with fail
  refine C.out.mono ?_
  rintro e w9 ⟨rfl, h9⟩
  have HF := Lib.hid (BW.out.trans (h9.mono BW.out.size))
  clear h9 C
  go_wp2_with fail
  (first | go_ret | go_ret2)
  exact ⟨rfl, HF.out⟩
end Pg
end Go.Proofs.YtiabkkdeonepgaaGreatDoor
namespace Go.Proofs.YtiabkkdeonepgaaGreatDoor
open Go.RowKit
namespace Pg
open Ps
set_option maxHeartbeats 4000000 in
theorem kids0 (B : Nat) (w : World) (x1 x2 x3 : Nat) (x4 : ByteArray) (x5 : Nat) (k : Fo) (A : Option Addr) (cap : Nat) (hk : KV w (fun g => g < B) k A cap) (hx : x1 = 0 ∨ x1 = 21 ∨ x1 = 22 ∨ x1 = 23 ∨ x1 = 24 ∨ x1 = 29 ∨ x1 = 30 ∨ x1 = 31) (hs : k.kinds = []) (hl : k.len ≤ 1000001) :
    Calls Tryz.prog 30 #[.agg #[.int .i64 x1, .int .i64 x2, .int .i64 x3, .string x4, .int .i64 x5, .slice A k.len cap]] w fun e w' => e = .returned (.bool true) ∧ Below w.heap.size w w' := by
  have t1 : ((x1 : Int) == 1) = false := by rw [beq_eq_false_iff_ne]; omega
  have t2 : ((x1 : Int) == 2) = false := by rw [beq_eq_false_iff_ne]; omega
  have t3 : ((x1 : Int) == 3) = false := by rw [beq_eq_false_iff_ne]; omega
  have t28 : ((x1 : Int) == 28) = false := by rw [beq_eq_false_iff_ne]; omega
  have t4 : ((x1 : Int) == 4) = false := by rw [beq_eq_false_iff_ne]; omega
  have t5 : ((x1 : Int) == 5) = false := by rw [beq_eq_false_iff_ne]; omega
  have t6 : ((x1 : Int) == 6) = false := by rw [beq_eq_false_iff_ne]; omega
  have t7 : ((x1 : Int) == 7) = false := by rw [beq_eq_false_iff_ne]; omega
  have t8 : ((x1 : Int) == 8) = false := by rw [beq_eq_false_iff_ne]; omega
  have t11 : ((x1 : Int) == 11) = false := by rw [beq_eq_false_iff_ne]; omega
  have t12 : ((x1 : Int) == 12) = false := by rw [beq_eq_false_iff_ne]; omega
  have t13 : ((x1 : Int) == 13) = false := by rw [beq_eq_false_iff_ne]; omega
  have t25 : ((x1 : Int) == 25) = false := by rw [beq_eq_false_iff_ne]; omega
  have t27 : ((x1 : Int) == 27) = false := by rw [beq_eq_false_iff_ne]; omega
  have t9 : ((x1 : Int) == 9) = false := by rw [beq_eq_false_iff_ne]; omega
  have t10 : ((x1 : Int) == 10) = false := by rw [beq_eq_false_iff_ne]; omega
  have t14 : ((x1 : Int) == 14) = false := by rw [beq_eq_false_iff_ne]; omega
  have t15 : ((x1 : Int) == 15) = false := by rw [beq_eq_false_iff_ne]; omega
  have t16 : ((x1 : Int) == 16) = false := by rw [beq_eq_false_iff_ne]; omega
  have t17 : ((x1 : Int) == 17) = false := by rw [beq_eq_false_iff_ne]; omega
  have t18 : ((x1 : Int) == 18) = false := by rw [beq_eq_false_iff_ne]; omega
  have t19 : ((x1 : Int) == 19) = false := by rw [beq_eq_false_iff_ne]; omega
  have t20 : ((x1 : Int) == 20) = false := by rw [beq_eq_false_iff_ne]; omega
  have t26 : ((x1 : Int) == 26) = false := by rw [beq_eq_false_iff_ne]; omega
  have t32 : ((x1 : Int) == 32) = false := by rw [beq_eq_false_iff_ne]; omega
  have t33 : ((x1 : Int) == 33) = false := by rw [beq_eq_false_iff_ne]; omega
  have t34 : ((x1 : Int) == 34) = false := by rw [beq_eq_false_iff_ne]; omega
  clear hx
  have R0 := Lib.hid (RowB.new w 25 #[.int .i64 x1, .int .i64 x2, .int .i64 x3, .string x4, .int .i64 x5, .slice A k.len cap])
  have HK := Lib.hid hk
  clear hk
  go_enter Tryz.func30, Tryz.ntmps30
  have C := Lib.hid (upto_any B (w.alloc (.cells #[.int .i64 x1, .int .i64 x2, .int .i64 x3, .string x4, .int .i64 x5, .slice A k.len cap] 25)) 3 3 rfl)
  go_wp2_with fail
  refine C.out.mono ?_
  rintro e w1 ⟨v, rfl, hp, hb⟩
  obtain ⟨F1, c1, rfl⟩ := hp.form
  have B1 := Lib.hid hb
  have P1 := Lib.hid hp
  clear C hp hb
  have C := Lib.hid (upto_any B w1 2 2 rfl)
  go_wp2_with fail
  refine C.out.mono ?_
  rintro e w2 ⟨v, rfl, hp, hb⟩
  obtain ⟨F2, c2, rfl⟩ := hp.form
  have B2 := Lib.hid hb
  have P2 := Lib.hid hp
  clear C hp hb
  have C := Lib.hid (upto_any B w2 1 1 rfl)
  go_wp2_with fail
  refine C.out.mono ?_
  rintro e w3 ⟨v, rfl, hp, hb⟩
  obtain ⟨F3, c3, rfl⟩ := hp.form
  have B3 := Lib.hid hb
  have P3 := Lib.hid hp
  clear C hp hb
  have C := Lib.hid (upto_any B w3 0 0 rfl)
  go_wp2_with fail
  refine C.out.mono ?_
  rintro e w4 ⟨v, rfl, hp, hb⟩
  obtain ⟨F4, c4, rfl⟩ := hp.form
  have B4 := Lib.hid hb
  have P4 := Lib.hid hp
  clear C hp hb
  have C := Lib.hid (is_new B w4 [4] 1 w4.heap.size rfl #[.int .i64 4] rfl rfl (by decide))
  go_wp2_with fail
  refine C.out.mono ?_
  rintro e w5 ⟨v, rfl, hp, hb⟩
  obtain ⟨F5, c5, rfl⟩ := hp.form
  have B5 := Lib.hid hb
  have P5 := Lib.hid hp
  clear C hp hb
  have C := Lib.hid (is_new B w5 [6] 1 w5.heap.size rfl #[.int .i64 6] rfl rfl (by decide))
  go_wp2_with fail
  refine C.out.mono ?_
  rintro e w6 ⟨v, rfl, hp, hb⟩
  obtain ⟨F6, c6, rfl⟩ := hp.form
  have B6 := Lib.hid hb
  have P6 := Lib.hid hp
  clear C hp hb
  have b0 : Below w.heap.size w (w.alloc (.cells #[.int .i64 x1, .int .i64 x2, .int .i64 x3, .string x4, .int .i64 x5, .slice A k.len cap] 25)) := bel1 w _
  have y2 := B1.out.trans (B2.out.mono B1.out.size)
  have y3 := y2.trans (B3.out.mono y2.size)
  have y4 := y3.trans (B4.out.mono y3.size)
  have y5 := y4.trans (B5.out.mono y4.size)
  have y6 := y5.trans (B6.out.mono y5.size)
  have BW : Hid (Below w.heap.size w w6) := b0.trans (y6.mono b0.size)
  have P5' := Lib.hid (P5.out.below B6.out)
  have P4' := Lib.hid ((P4.out.below B5.out).below B6.out)
  have P3' := Lib.hid (((P3.out.below B4.out).below B5.out).below B6.out)
  have P2' := Lib.hid ((((P2.out.below B3.out).below B4.out).below B5.out).below B6.out)
  have P1' := Lib.hid (((((P1.out.below B2.out).below B3.out).below B4.out).below B5.out).below B6.out)
  have RW : Hid (RowB w6 w.heap.size 25 #[.int .i64 x1, .int .i64 x2, .int .i64 x3, .string x4, .int .i64 x5, .slice A k.len cap]) := R0.out.below y6 R0.out.lt
  have KW : Hid (KV w6 (fun g => g < B) k A cap) := HK.out.below BW.out
  have HL := Lib.hid hl
  have HS : Hid (k.kinds = []) := hs
  clear b0 y2 y3 y4 y5 y6 P1 P2 P3 P4 P5 B1 B2 B3 B4 B5 B6 R0 HK hl hs
  have rc := RW.out.cell
  have hl0 : ((k.len : Nat) : Int) = 0 := by rw [← kinds_len, HS.out]; rfl
  go_wp2_with fail
  (first | go_ret | go_ret2)
  exact ⟨rfl, BW.out⟩
end Pg
end Go.Proofs.YtiabkkdeonepgaaGreatDoor
