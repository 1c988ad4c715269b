import Derived.Deep.RegionHeld3
import Derived.Test.YtiabkkdeonepgaaGreatDoorXX
set_option maxRecDepth 100000
set_option maxHeartbeats 8000000
namespace Go.Proofs.YtiabkkdeonepgaaGreatDoor
open Go.RowKit
namespace Pg
open Ps
theorem kids14 (B : Nat) (w : World) (x2 x3 : Nat) (x4 : ByteArray) (x5 : Nat) (k : Fo) (A : Option Addr) (cap : Nat) (hk : KV w (fun g => g < B) k A cap) (hs : shp 14 k.kinds) (hl : k.len ≤ 1000001) :
    Calls Tryz.prog 30 #[.agg #[.int .i64 14, .int .i64 x2, .int .i64 x3, .string x4, .int .i64 x5, .slice A k.len cap]] w fun e w' => e = .returned (.bool true) ∧ Below w.heap.size w w' := by
  have R0 := Lib.hid (RowB.new w 25 #[.int .i64 14, .int .i64 x2, .int .i64 x3, .string x4, .int .i64 x5, .slice A k.len cap])
  have HK := Lib.hid hk
  clear hk
  go_enter Tryz.func30, Tryz.ntmps30
  have C := Lib.hid (upto_any B (w.alloc (.cells #[.int .i64 14, .int .i64 x2, .int .i64 x3, .string x4, .int .i64 x5, .slice A k.len cap] 25)) 3 3 rfl)
  go_wp2_with fail
  refine C.out.mono ?_
  rintro e w1 ⟨v, rfl, hp, hb⟩
  obtain ⟨F1, c1, rfl⟩ := hp.form
  have B1 := Lib.hid hb
  have P1 := Lib.hid hp
  clear C hp hb
  have C := Lib.hid (upto_any B w1 2 2 rfl)
  go_wp2_with fail
  refine C.out.mono ?_
  rintro e w2 ⟨v, rfl, hp, hb⟩
  obtain ⟨F2, c2, rfl⟩ := hp.form
  have B2 := Lib.hid hb
  have P2 := Lib.hid hp
  clear C hp hb
  have C := Lib.hid (upto_any B w2 1 1 rfl)
  go_wp2_with fail
  refine C.out.mono ?_
  rintro e w3 ⟨v, rfl, hp, hb⟩
  obtain ⟨F3, c3, rfl⟩ := hp.form
  have B3 := Lib.hid hb
  have P3 := Lib.hid hp
  clear C hp hb
  have C := Lib.hid (upto_any B w3 0 0 rfl)
  go_wp2_with fail
  refine C.out.mono ?_
  rintro e w4 ⟨v, rfl, hp, hb⟩
  obtain ⟨F4, c4, rfl⟩ := hp.form
  have B4 := Lib.hid hb
  have P4 := Lib.hid hp
  clear C hp hb
  have C := Lib.hid (is_new B w4 [4] 1 w4.heap.size rfl #[.int .i64 4] rfl rfl (by decide))
  go_wp2_with fail
  refine C.out.mono ?_
  rintro e w5 ⟨v, rfl, hp, hb⟩
  obtain ⟨F5, c5, rfl⟩ := hp.form
  have B5 := Lib.hid hb
  have P5 := Lib.hid hp
  clear C hp hb
  have C := Lib.hid (is_new B w5 [6] 1 w5.heap.size rfl #[.int .i64 6] rfl rfl (by decide))
  go_wp2_with fail
  refine C.out.mono ?_
  rintro e w6 ⟨v, rfl, hp, hb⟩
  obtain ⟨F6, c6, rfl⟩ := hp.form
  have B6 := Lib.hid hb
  have P6 := Lib.hid hp
  clear C hp hb
  have b0 : Below w.heap.size w (w.alloc (.cells #[.int .i64 14, .int .i64 x2, .int .i64 x3, .string x4, .int .i64 x5, .slice A k.len cap] 25)) := bel1 w _
  have y2 := B1.out.trans (B2.out.mono B1.out.size)
  have y3 := y2.trans (B3.out.mono y2.size)
  have y4 := y3.trans (B4.out.mono y3.size)
  have y5 := y4.trans (B5.out.mono y4.size)
  have y6 := y5.trans (B6.out.mono y5.size)
  have BW : Hid (Below w.heap.size w w6) := b0.trans (y6.mono b0.size)
  have P5' := Lib.hid (P5.out.below B6.out)
  have P4' := Lib.hid ((P4.out.below B5.out).below B6.out)
  have P3' := Lib.hid (((P3.out.below B4.out).below B5.out).below B6.out)
  have P2' := Lib.hid ((((P2.out.below B3.out).below B4.out).below B5.out).below B6.out)
  have P1' := Lib.hid (((((P1.out.below B2.out).below B3.out).below B4.out).below B5.out).below B6.out)
  have RW : Hid (RowB w6 w.heap.size 25 #[.int .i64 14, .int .i64 x2, .int .i64 x3, .string x4, .int .i64 x5, .slice A k.len cap]) := R0.out.below y6 R0.out.lt
  have KW : Hid (KV w6 (fun g => g < B) k A cap) := HK.out.below BW.out
  have HL := Lib.hid hl
  have HS := Lib.hid hs
  clear b0 y2 y3 y4 y5 y6 P1 P2 P3 P4 P5 B1 B2 B3 B4 B5 B6 R0 HK hl hs
  have rc := RW.out.cell
  obtain ⟨a0, a1, hks, h0, h1⟩ := HS.out
  have C := Lib.hid (fit2 B w6 (.func (.func F2) #[] c2) (.func (.func F2) #[] c2) (up 2) (up 2) a0 a1 w6.heap.size rfl k A cap k.len hks rfl KW.out P2'.out h0 P2'.out h1)
  clear h0 h1 hks
  go_wp2_with fail
  refine C.out.mono ?_
  rintro e w9 ⟨rfl, h9⟩
  have HF := Lib.hid (BW.out.trans (h9.mono BW.out.size))
  clear h9 C
  go_wp2_with fail
  (first | go_ret | go_ret2)
  exact ⟨rfl, HF.out⟩
theorem kids15 (B : Nat) (w : World) (x2 x3 : Nat) (x4 : ByteArray) (x5 : Nat) (k : Fo) (A : Option Addr) (cap : Nat) (hk : KV w (fun g => g < B) k A cap) (hs : shp 15 k.kinds) (hl : k.len ≤ 1000001) :
    Calls Tryz.prog 30 #[.agg #[.int .i64 15, .int .i64 x2, .int .i64 x3, .string x4, .int .i64 x5, .slice A k.len cap]] w fun e w' => e = .returned (.bool true) ∧ Below w.heap.size w w' := by
  have R0 := Lib.hid (RowB.new w 25 #[.int .i64 15, .int .i64 x2, .int .i64 x3, .string x4, .int .i64 x5, .slice A k.len cap])
  have HK := Lib.hid hk
  clear hk
  go_enter Tryz.func30, Tryz.ntmps30
  have C := Lib.hid (upto_any B (w.alloc (.cells #[.int .i64 15, .int .i64 x2, .int .i64 x3, .string x4, .int .i64 x5, .slice A k.len cap] 25)) 3 3 rfl)
  go_wp2_with fail
  refine C.out.mono ?_
  rintro e w1 ⟨v, rfl, hp, hb⟩
  obtain ⟨F1, c1, rfl⟩ := hp.form
  have B1 := Lib.hid hb
  have P1 := Lib.hid hp
  clear C hp hb
  have C := Lib.hid (upto_any B w1 2 2 rfl)
  go_wp2_with fail
  refine C.out.mono ?_
  rintro e w2 ⟨v, rfl, hp, hb⟩
  obtain ⟨F2, c2, rfl⟩ := hp.form
  have B2 := Lib.hid hb
  have P2 := Lib.hid hp
  clear C hp hb
  have C := Lib.hid (upto_any B w2 1 1 rfl)
  go_wp2_with fail
  refine C.out.mono ?_
  rintro e w3 ⟨v, rfl, hp, hb⟩
  obtain ⟨F3, c3, rfl⟩ := hp.form
  have B3 := Lib.hid hb
  have P3 := Lib.hid hp
  clear C hp hb
  have C := Lib.hid (upto_any B w3 0 0 rfl)
  go_wp2_with fail
  refine C.out.mono ?_
  rintro e w4 ⟨v, rfl, hp, hb⟩
  obtain ⟨F4, c4, rfl⟩ := hp.form
  have B4 := Lib.hid hb
  have P4 := Lib.hid hp
  clear C hp hb
  have C := Lib.hid (is_new B w4 [4] 1 w4.heap.size rfl #[.int .i64 4] rfl rfl (by decide))
  go_wp2_with fail
  refine C.out.mono ?_
  rintro e w5 ⟨v, rfl, hp, hb⟩
  obtain ⟨F5, c5, rfl⟩ := hp.form
  have B5 := Lib.hid hb
  have P5 := Lib.hid hp
  clear C hp hb
  have C := Lib.hid (is_new B w5 [6] 1 w5.heap.size rfl #[.int .i64 6] rfl rfl (by decide))
  go_wp2_with fail
  refine C.out.mono ?_
  rintro e w6 ⟨v, rfl, hp, hb⟩
  obtain ⟨F6, c6, rfl⟩ := hp.form
  have B6 := Lib.hid hb
  have P6 := Lib.hid hp
  clear C hp hb
  have b0 : Below w.heap.size w (w.alloc (.cells #[.int .i64 15, .int .i64 x2, .int .i64 x3, .string x4, .int .i64 x5, .slice A k.len cap] 25)) := bel1 w _
  have y2 := B1.out.trans (B2.out.mono B1.out.size)
  have y3 := y2.trans (B3.out.mono y2.size)
  have y4 := y3.trans (B4.out.mono y3.size)
  have y5 := y4.trans (B5.out.mono y4.size)
  have y6 := y5.trans (B6.out.mono y5.size)
  have BW : Hid (Below w.heap.size w w6) := b0.trans (y6.mono b0.size)
  have P5' := Lib.hid (P5.out.below B6.out)
  have P4' := Lib.hid ((P4.out.below B5.out).below B6.out)
  have P3' := Lib.hid (((P3.out.below B4.out).below B5.out).below B6.out)
  have P2' := Lib.hid ((((P2.out.below B3.out).below B4.out).below B5.out).below B6.out)
  have P1' := Lib.hid (((((P1.out.below B2.out).below B3.out).below B4.out).below B5.out).below B6.out)
  have RW : Hid (RowB w6 w.heap.size 25 #[.int .i64 15, .int .i64 x2, .int .i64 x3, .string x4, .int .i64 x5, .slice A k.len cap]) := R0.out.below y6 R0.out.lt
  have KW : Hid (KV w6 (fun g => g < B) k A cap) := HK.out.below BW.out
  have HL := Lib.hid hl
  have HS := Lib.hid hs
  clear b0 y2 y3 y4 y5 y6 P1 P2 P3 P4 P5 B1 B2 B3 B4 B5 B6 R0 HK hl hs
  have rc := RW.out.cell
  obtain ⟨a0, a1, hks, h0, h1⟩ := HS.out
  have C := Lib.hid (fit2 B w6 (.func (.func F2) #[] c2) (.func (.func F2) #[] c2) (up 2) (up 2) a0 a1 w6.heap.size rfl k A cap k.len hks rfl KW.out P2'.out h0 P2'.out h1)
  clear h0 h1 hks
  go_wp2_with fail
  refine C.out.mono ?_
  rintro e w9 ⟨rfl, h9⟩
  have HF := Lib.hid (BW.out.trans (h9.mono BW.out.size))
  clear h9 C
  go_wp2_with fail
  (first | go_ret | go_ret2)
  exact ⟨rfl, HF.out⟩
theorem kids16 (B : Nat) (w : World) (x2 x3 : Nat) (x4 : ByteArray) (x5 : Nat) (k : Fo) (A : Option Addr) (cap : Nat) (hk : KV w (fun g => g < B) k A cap) (hs : shp 16 k.kinds) (hl : k.len ≤ 1000001) :
    Calls Tryz.prog 30 #[.agg #[.int .i64 16, .int .i64 x2, .int .i64 x3, .string x4, .int .i64 x5, .slice A k.len cap]] w fun e w' => e = .returned (.bool true) ∧ Below w.heap.size w w' := by
  have R0 := Lib.hid (RowB.new w 25 #[.int .i64 16, .int .i64 x2, .int .i64 x3, .string x4, .int .i64 x5, .slice A k.len cap])
  have HK := Lib.hid hk
  clear hk
  go_enter Tryz.func30, Tryz.ntmps30
  have C := Lib.hid (upto_any B (w.alloc (.cells #[.int .i64 16, .int .i64 x2, .int .i64 x3, .string x4, .int .i64 x5, .slice A k.len cap] 25)) 3 3 rfl)
  go_wp2_with fail
  refine C.out.mono ?_
  rintro e w1 ⟨v, rfl, hp, hb⟩
  obtain ⟨F1, c1, rfl⟩ := hp.form
  have B1 := Lib.hid hb
  have P1 := Lib.hid hp
  clear C hp hb
  have C := Lib.hid (upto_any B w1 2 2 rfl)
  go_wp2_with fail
  refine C.out.mono ?_
  rintro e w2 ⟨v, rfl, hp, hb⟩
  obtain ⟨F2, c2, rfl⟩ := hp.form
  have B2 := Lib.hid hb
  have P2 := Lib.hid hp
  clear C hp hb
  have C := Lib.hid (upto_any B w2 1 1 rfl)
  go_wp2_with fail
  refine C.out.mono ?_
  rintro e w3 ⟨v, rfl, hp, hb⟩
  obtain ⟨F3, c3, rfl⟩ := hp.form
  have B3 := Lib.hid hb
  have P3 := Lib.hid hp
  clear C hp hb
  have C := Lib.hid (upto_any B w3 0 0 rfl)
  go_wp2_with fail
  refine C.out.mono ?_
  rintro e w4 ⟨v, rfl, hp, hb⟩
  obtain ⟨F4, c4, rfl⟩ := hp.form
  have B4 := Lib.hid hb
  have P4 := Lib.hid hp
  clear C hp hb
  have C := Lib.hid (is_new B w4 [4] 1 w4.heap.size rfl #[.int .i64 4] rfl rfl (by decide))
  go_wp2_with fail
  refine C.out.mono ?_
  rintro e w5 ⟨v, rfl, hp, hb⟩
  obtain ⟨F5, c5, rfl⟩ := hp.form
  have B5 := Lib.hid hb
  have P5 := Lib.hid hp
  clear C hp hb
  have C := Lib.hid (is_new B w5 [6] 1 w5.heap.size rfl #[.int .i64 6] rfl rfl (by decide))
  go_wp2_with fail
  refine C.out.mono ?_
  rintro e w6 ⟨v, rfl, hp, hb⟩
  obtain ⟨F6, c6, rfl⟩ := hp.form
  have B6 := Lib.hid hb
  have P6 := Lib.hid hp
  clear C hp hb
  have b0 : Below w.heap.size w (w.alloc (.cells #[.int .i64 16, .int .i64 x2, .int .i64 x3, .string x4, .int .i64 x5, .slice A k.len cap] 25)) := bel1 w _
  have y2 := B1.out.trans (B2.out.mono B1.out.size)
  have y3 := y2.trans (B3.out.mono y2.size)
  have y4 := y3.trans (B4.out.mono y3.size)
  have y5 := y4.trans (B5.out.mono y4.size)
  have y6 := y5.trans (B6.out.mono y5.size)
  have BW : Hid (Below w.heap.size w w6) := b0.trans (y6.mono b0.size)
  have P5' := Lib.hid (P5.out.below B6.out)
  have P4' := Lib.hid ((P4.out.below B5.out).below B6.out)
  have P3' := Lib.hid (((P3.out.below B4.out).below B5.out).below B6.out)
  have P2' := Lib.hid ((((P2.out.below B3.out).below B4.out).below B5.out).below B6.out)
  have P1' := Lib.hid (((((P1.out.below B2.out).below B3.out).below B4.out).below B5.out).below B6.out)
  have RW : Hid (RowB w6 w.heap.size 25 #[.int .i64 16, .int .i64 x2, .int .i64 x3, .string x4, .int .i64 x5, .slice A k.len cap]) := R0.out.below y6 R0.out.lt
  have KW : Hid (KV w6 (fun g => g < B) k A cap) := HK.out.below BW.out
  have HL := Lib.hid hl
  have HS := Lib.hid hs
  clear b0 y2 y3 y4 y5 y6 P1 P2 P3 P4 P5 B1 B2 B3 B4 B5 B6 R0 HK hl hs
  have rc := RW.out.cell
  obtain ⟨a0, a1, hks, h0, h1⟩ := HS.out
  have C := Lib.hid (fit2 B w6 (.func (.func F2) #[] c2) (.func (.func F3) #[] c3) (up 2) (up 1) a0 a1 w6.heap.size rfl k A cap k.len hks rfl KW.out P2'.out h0 P3'.out h1)
  clear h0 h1 hks
  go_wp2_with fail
  refine C.out.mono ?_
  rintro e w9 ⟨rfl, h9⟩
  have HF := Lib.hid (BW.out.trans (h9.mono BW.out.size))
  clear h9 C
  go_wp2_with fail
  (first | go_ret | go_ret2)
  exact ⟨rfl, HF.out⟩
theorem kids17 (B : Nat) (w : World) (x2 x3 : Nat) (x4 : ByteArray) (x5 : Nat) (k : Fo) (A : Option Addr) (cap : Nat) (hk : KV w (fun g => g < B) k A cap) (hs : shp 17 k.kinds) (hl : k.len ≤ 1000001) :
    Calls Tryz.prog 30 #[.agg #[.int .i64 17, .int .i64 x2, .int .i64 x3, .string x4, .int .i64 x5, .slice A k.len cap]] w fun e w' => e = .returned (.bool true) ∧ Below w.heap.size w w' := by
  have R0 := Lib.hid (RowB.new w 25 #[.int .i64 17, .int .i64 x2, .int .i64 x3, .string x4, .int .i64 x5, .slice A k.len cap])
  have HK := Lib.hid hk
  clear hk
  go_enter Tryz.func30, Tryz.ntmps30
  have C := Lib.hid (upto_any B (w.alloc (.cells #[.int .i64 17, .int .i64 x2, .int .i64 x3, .string x4, .int .i64 x5, .slice A k.len cap] 25)) 3 3 rfl)
  go_wp2_with fail
  refine C.out.mono ?_
  rintro e w1 ⟨v, rfl, hp, hb⟩
  obtain ⟨F1, c1, rfl⟩ := hp.form
  have B1 := Lib.hid hb
  have P1 := Lib.hid hp
  clear C hp hb
  have C := Lib.hid (upto_any B w1 2 2 rfl)
  go_wp2_with fail
  refine C.out.mono ?_
  rintro e w2 ⟨v, rfl, hp, hb⟩
  obtain ⟨F2, c2, rfl⟩ := hp.form
  have B2 := Lib.hid hb
  have P2 := Lib.hid hp
  clear C hp hb
  have C := Lib.hid (upto_any B w2 1 1 rfl)
  go_wp2_with fail
  refine C.out.mono ?_
  rintro e w3 ⟨v, rfl, hp, hb⟩
  obtain ⟨F3, c3, rfl⟩ := hp.form
  have B3 := Lib.hid hb
  have P3 := Lib.hid hp
  clear C hp hb
  have C := Lib.hid (upto_any B w3 0 0 rfl)
  go_wp2_with fail
  refine C.out.mono ?_
  rintro e w4 ⟨v, rfl, hp, hb⟩
  obtain ⟨F4, c4, rfl⟩ := hp.form
  have B4 := Lib.hid hb
  have P4 := Lib.hid hp
  clear C hp hb
  have C := Lib.hid (is_new B w4 [4] 1 w4.heap.size rfl #[.int .i64 4] rfl rfl (by decide))
  go_wp2_with fail
  refine C.out.mono ?_
  rintro e w5 ⟨v, rfl, hp, hb⟩
  obtain ⟨F5, c5, rfl⟩ := hp.form
  have B5 := Lib.hid hb
  have P5 := Lib.hid hp
  clear C hp hb
  have C := Lib.hid (is_new B w5 [6] 1 w5.heap.size rfl #[.int .i64 6] rfl rfl (by decide))
  go_wp2_with fail
  refine C.out.mono ?_
  rintro e w6 ⟨v, rfl, hp, hb⟩
  obtain ⟨F6, c6, rfl⟩ := hp.form
  have B6 := Lib.hid hb
  have P6 := Lib.hid hp
  clear C hp hb
  have b0 : Below w.heap.size w (w.alloc (.cells #[.int .i64 17, .int .i64 x2, .int .i64 x3, .string x4, .int .i64 x5, .slice A k.len cap] 25)) := bel1 w _
  have y2 := B1.out.trans (B2.out.mono B1.out.size)
  have y3 := y2.trans (B3.out.mono y2.size)
  have y4 := y3.trans (B4.out.mono y3.size)
  have y5 := y4.trans (B5.out.mono y4.size)
  have y6 := y5.trans (B6.out.mono y5.size)
  have BW : Hid (Below w.heap.size w w6) := b0.trans (y6.mono b0.size)
  have P5' := Lib.hid (P5.out.below B6.out)
  have P4' := Lib.hid ((P4.out.below B5.out).below B6.out)
  have P3' := Lib.hid (((P3.out.below B4.out).below B5.out).below B6.out)
  have P2' := Lib.hid ((((P2.out.below B3.out).below B4.out).below B5.out).below B6.out)
  have P1' := Lib.hid (((((P1.out.below B2.out).below B3.out).below B4.out).below B5.out).below B6.out)
  have RW : Hid (RowB w6 w.heap.size 25 #[.int .i64 17, .int .i64 x2, .int .i64 x3, .string x4, .int .i64 x5, .slice A k.len cap]) := R0.out.below y6 R0.out.lt
  have KW : Hid (KV w6 (fun g => g < B) k A cap) := HK.out.below BW.out
  have HL := Lib.hid hl
  have HS := Lib.hid hs
  clear b0 y2 y3 y4 y5 y6 P1 P2 P3 P4 P5 B1 B2 B3 B4 B5 B6 R0 HK hl hs
  have rc := RW.out.cell
  obtain ⟨a0, a1, hks, h0, h1⟩ := HS.out
  have C := Lib.hid (fit2 B w6 (.func (.func F2) #[] c2) (.func (.func F3) #[] c3) (up 2) (up 1) a0 a1 w6.heap.size rfl k A cap k.len hks rfl KW.out P2'.out h0 P3'.out h1)
  clear h0 h1 hks
  go_wp2_with fail
  refine C.out.mono ?_
  rintro e w9 ⟨rfl, h9⟩
  have HF := Lib.hid (BW.out.trans (h9.mono BW.out.size))
  clear h9 C
  go_wp2_with fail
  (first | go_ret | go_ret2)
  exact ⟨rfl, HF.out⟩
theorem kids18 (B : Nat) (w : World) (x2 x3 : Nat) (x4 : ByteArray) (x5 : Nat) (k : Fo) (A : Option Addr) (cap : Nat) (hk : KV w (fun g => g < B) k A cap) (hs : shp 18 k.kinds) (hl : k.len ≤ 1000001) :
    Calls Tryz.prog 30 #[.agg #[.int .i64 18, .int .i64 x2, .int .i64 x3, .string x4, .int .i64 x5, .slice A k.len cap]] w fun e w' => e = .returned (.bool true) ∧ Below w.heap.size w w' := by
  have R0 := Lib.hid (RowB.new w 25 #[.int .i64 18, .int .i64 x2, .int .i64 x3, .string x4, .int .i64 x5, .slice A k.len cap])
  have HK := Lib.hid hk
  clear hk
  go_enter Tryz.func30, Tryz.ntmps30
  have C := Lib.hid (upto_any B (w.alloc (.cells #[.int .i64 18, .int .i64 x2, .int .i64 x3, .string x4, .int .i64 x5, .slice A k.len cap] 25)) 3 3 rfl)
  go_wp2_with fail
  refine C.out.mono ?_
  rintro e w1 ⟨v, rfl, hp, hb⟩
  obtain ⟨F1, c1, rfl⟩ := hp.form
  have B1 := Lib.hid hb
  have P1 := Lib.hid hp
  clear C hp hb
  have C := Lib.hid (upto_any B w1 2 2 rfl)
  go_wp2_with fail
  refine C.out.mono ?_
  rintro e w2 ⟨v, rfl, hp, hb⟩
  obtain ⟨F2, c2, rfl⟩ := hp.form
  have B2 := Lib.hid hb
  have P2 := Lib.hid hp
  clear C hp hb
  have C := Lib.hid (upto_any B w2 1 1 rfl)
  go_wp2_with fail
  refine C.out.mono ?_
  rintro e w3 ⟨v, rfl, hp, hb⟩
  obtain ⟨F3, c3, rfl⟩ := hp.form
  have B3 := Lib.hid hb
  have P3 := Lib.hid hp
  clear C hp hb
  have C := Lib.hid (upto_any B w3 0 0 rfl)
  go_wp2_with fail
  refine C.out.mono ?_
  rintro e w4 ⟨v, rfl, hp, hb⟩
  obtain ⟨F4, c4, rfl⟩ := hp.form
  have B4 := Lib.hid hb
  have P4 := Lib.hid hp
  clear C hp hb
  have C := Lib.hid (is_new B w4 [4] 1 w4.heap.size rfl #[.int .i64 4] rfl rfl (by decide))
  go_wp2_with fail
  refine C.out.mono ?_
  rintro e w5 ⟨v, rfl, hp, hb⟩
  obtain ⟨F5, c5, rfl⟩ := hp.form
  have B5 := Lib.hid hb
  have P5 := Lib.hid hp
  clear C hp hb
  have C := Lib.hid (is_new B w5 [6] 1 w5.heap.size rfl #[.int .i64 6] rfl rfl (by decide))
  go_wp2_with fail
  refine C.out.mono ?_
  rintro e w6 ⟨v, rfl, hp, hb⟩
  obtain ⟨F6, c6, rfl⟩ := hp.form
  have B6 := Lib.hid hb
  have P6 := Lib.hid hp
  clear C hp hb
  have b0 : Below w.heap.size w (w.alloc (.cells #[.int .i64 18, .int .i64 x2, .int .i64 x3, .string x4, .int .i64 x5, .slice A k.len cap] 25)) := bel1 w _
  have y2 := B1.out.trans (B2.out.mono B1.out.size)
  have y3 := y2.trans (B3.out.mono y2.size)
  have y4 := y3.trans (B4.out.mono y3.size)
  have y5 := y4.trans (B5.out.mono y4.size)
  have y6 := y5.trans (B6.out.mono y5.size)
  have BW : Hid (Below w.heap.size w w6) := b0.trans (y6.mono b0.size)
  have P5' := Lib.hid (P5.out.below B6.out)
  have P4' := Lib.hid ((P4.out.below B5.out).below B6.out)
  have P3' := Lib.hid (((P3.out.below B4.out).below B5.out).below B6.out)
  have P2' := Lib.hid ((((P2.out.below B3.out).below B4.out).below B5.out).below B6.out)
  have P1' := Lib.hid (((((P1.out.below B2.out).below B3.out).below B4.out).below B5.out).below B6.out)
  have RW : Hid (RowB w6 w.heap.size 25 #[.int .i64 18, .int .i64 x2, .int .i64 x3, .string x4, .int .i64 x5, .slice A k.len cap]) := R0.out.below y6 R0.out.lt
  have KW : Hid (KV w6 (fun g => g < B) k A cap) := HK.out.below BW.out
  have HL := Lib.hid hl
  have HS := Lib.hid hs
  clear b0 y2 y3 y4 y5 y6 P1 P2 P3 P4 P5 B1 B2 B3 B4 B5 B6 R0 HK hl hs
  have rc := RW.out.cell
  obtain ⟨a0, a1, hks, h0, h1⟩ := HS.out
  have C := Lib.hid (fit2 B w6 (.func (.func F3) #[] c3) (.func (.func F4) #[] c4) (up 1) (up 0) a0 a1 w6.heap.size rfl k A cap k.len hks rfl KW.out P3'.out h0 P4'.out h1)
  clear h0 h1 hks
  go_wp2_with fail
  refine C.out.mono ?_
  rintro e w9 ⟨rfl, h9⟩
  have HF := Lib.hid (BW.out.trans (h9.mono BW.out.size))
  clear h9 C
  go_wp2_with fail
  (first | go_ret | go_ret2)
  exact ⟨rfl, HF.out⟩
theorem kids19 (B : Nat) (w : World) (x2 x3 : Nat) (x4 : ByteArray) (x5 : Nat) (k : Fo) (A : Option Addr) (cap : Nat) (hk : KV w (fun g => g < B) k A cap) (hs : shp 19 k.kinds) (hl : k.len ≤ 1000001) :
    Calls Tryz.prog 30 #[.agg #[.int .i64 19, .int .i64 x2, .int .i64 x3, .string x4, .int .i64 x5, .slice A k.len cap]] w fun e w' => e = .returned (.bool true) ∧ Below w.heap.size w w' := by
  have R0 := Lib.hid (RowB.new w 25 #[.int .i64 19, .int .i64 x2, .int .i64 x3, .string x4, .int .i64 x5, .slice A k.len cap])
  have HK := Lib.hid hk
  clear hk
  go_enter Tryz.func30, Tryz.ntmps30
  have C := Lib.hid (upto_any B (w.alloc (.cells #[.int .i64 19, .int .i64 x2, .int .i64 x3, .string x4, .int .i64 x5, .slice A k.len cap] 25)) 3 3 rfl)
  go_wp2_with fail
  refine C.out.mono ?_
  rintro e w1 ⟨v, rfl, hp, hb⟩
  obtain ⟨F1, c1, rfl⟩ := hp.form
  have B1 := Lib.hid hb
  have P1 := Lib.hid hp
  clear C hp hb
  have C := Lib.hid (upto_any B w1 2 2 rfl)
  go_wp2_with fail
  refine C.out.mono ?_
  rintro e w2 ⟨v, rfl, hp, hb⟩
  obtain ⟨F2, c2, rfl⟩ := hp.form
  have B2 := Lib.hid hb
  have P2 := Lib.hid hp
  clear C hp hb
  have C := Lib.hid (upto_any B w2 1 1 rfl)
  go_wp2_with fail
  refine C.out.mono ?_
  rintro e w3 ⟨v, rfl, hp, hb⟩
  obtain ⟨F3, c3, rfl⟩ := hp.form
  have B3 := Lib.hid hb
  have P3 := Lib.hid hp
  clear C hp hb
  have C := Lib.hid (upto_any B w3 0 0 rfl)
  go_wp2_with fail
  refine C.out.mono ?_
  rintro e w4 ⟨v, rfl, hp, hb⟩
  obtain ⟨F4, c4, rfl⟩ := hp.form
  have B4 := Lib.hid hb
  have P4 := Lib.hid hp
  clear C hp hb
  have C := Lib.hid (is_new B w4 [4] 1 w4.heap.size rfl #[.int .i64 4] rfl rfl (by decide))
  go_wp2_with fail
  refine C.out.mono ?_
  rintro e w5 ⟨v, rfl, hp, hb⟩
  obtain ⟨F5, c5, rfl⟩ := hp.form
  have B5 := Lib.hid hb
  have P5 := Lib.hid hp
  clear C hp hb
  have C := Lib.hid (is_new B w5 [6] 1 w5.heap.size rfl #[.int .i64 6] rfl rfl (by decide))
  go_wp2_with fail
  refine C.out.mono ?_
  rintro e w6 ⟨v, rfl, hp, hb⟩
  obtain ⟨F6, c6, rfl⟩ := hp.form
  have B6 := Lib.hid hb
  have P6 := Lib.hid hp
  clear C hp hb
  have b0 : Below w.heap.size w (w.alloc (.cells #[.int .i64 19, .int .i64 x2, .int .i64 x3, .string x4, .int .i64 x5, .slice A k.len cap] 25)) := bel1 w _
  have y2 := B1.out.trans (B2.out.mono B1.out.size)
  have y3 := y2.trans (B3.out.mono y2.size)
  have y4 := y3.trans (B4.out.mono y3.size)
  have y5 := y4.trans (B5.out.mono y4.size)
  have y6 := y5.trans (B6.out.mono y5.size)
  have BW : Hid (Below w.heap.size w w6) := b0.trans (y6.mono b0.size)
  have P5' := Lib.hid (P5.out.below B6.out)
  have P4' := Lib.hid ((P4.out.below B5.out).below B6.out)
  have P3' := Lib.hid (((P3.out.below B4.out).below B5.out).below B6.out)
  have P2' := Lib.hid ((((P2.out.below B3.out).below B4.out).below B5.out).below B6.out)
  have P1' := Lib.hid (((((P1.out.below B2.out).below B3.out).below B4.out).below B5.out).below B6.out)
  have RW : Hid (RowB w6 w.heap.size 25 #[.int .i64 19, .int .i64 x2, .int .i64 x3, .string x4, .int .i64 x5, .slice A k.len cap]) := R0.out.below y6 R0.out.lt
  have KW : Hid (KV w6 (fun g => g < B) k A cap) := HK.out.below BW.out
  have HL := Lib.hid hl
  have HS := Lib.hid hs
  clear b0 y2 y3 y4 y5 y6 P1 P2 P3 P4 P5 B1 B2 B3 B4 B5 B6 R0 HK hl hs
  have rc := RW.out.cell
  obtain ⟨a0, hks, h0⟩ := HS.out
  have C := Lib.hid (fit1 B w6 (.func (.func F4) #[] c4) (up 0) a0 w6.heap.size rfl k A cap k.len hks rfl KW.out P4'.out h0)
  clear h0 hks
  go_wp2_with fail
  refine C.out.mono ?_
  rintro e w9 ⟨rfl, h9⟩
  have HF := Lib.hid (BW.out.trans (h9.mono BW.out.size))
  clear h9 C
  go_wp2_with fail
  (first | go_ret | go_ret2)
  exact ⟨rfl, HF.out⟩
theorem kids33 (B : Nat) (w : World) (x2 x3 : Nat) (x4 : ByteArray) (x5 : Nat) (k : Fo) (A : Option Addr) (cap : Nat) (hk : KV w (fun g => g < B) k A cap) (hs : shp 33 k.kinds) (hl : k.len ≤ 1000001) :
    Calls Tryz.prog 30 #[.agg #[.int .i64 33, .int .i64 x2, .int .i64 x3, .string x4, .int .i64 x5, .slice A k.len cap]] w fun e w' => e = .returned (.bool true) ∧ Below w.heap.size w w' := by
  have R0 := Lib.hid (RowB.new w 25 #[.int .i64 33, .int .i64 x2, .int .i64 x3, .string x4, .int .i64 x5, .slice A k.len cap])
  have HK := Lib.hid hk
  clear hk
  go_enter Tryz.func30, Tryz.ntmps30
  have C := Lib.hid (upto_any B (w.alloc (.cells #[.int .i64 33, .int .i64 x2, .int .i64 x3, .string x4, .int .i64 x5, .slice A k.len cap] 25)) 3 3 rfl)
  go_wp2_with fail
  refine C.out.mono ?_
  rintro e w1 ⟨v, rfl, hp, hb⟩
  obtain ⟨F1, c1, rfl⟩ := hp.form
  have B1 := Lib.hid hb
  have P1 := Lib.hid hp
  clear C hp hb
  have C := Lib.hid (upto_any B w1 2 2 rfl)
  go_wp2_with fail
  refine C.out.mono ?_
  rintro e w2 ⟨v, rfl, hp, hb⟩
  obtain ⟨F2, c2, rfl⟩ := hp.form
  have B2 := Lib.hid hb
  have P2 := Lib.hid hp
  clear C hp hb
  have C := Lib.hid (upto_any B w2 1 1 rfl)
  go_wp2_with fail
  refine C.out.mono ?_
  rintro e w3 ⟨v, rfl, hp, hb⟩
  obtain ⟨F3, c3, rfl⟩ := hp.form
  have B3 := Lib.hid hb
  have P3 := Lib.hid hp
  clear C hp hb
  have C := Lib.hid (upto_any B w3 0 0 rfl)
  go_wp2_with fail
  refine C.out.mono ?_
  rintro e w4 ⟨v, rfl, hp, hb⟩
  obtain ⟨F4, c4, rfl⟩ := hp.form
  have B4 := Lib.hid hb
  have P4 := Lib.hid hp
  clear C hp hb
  have C := Lib.hid (is_new B w4 [4] 1 w4.heap.size rfl #[.int .i64 4] rfl rfl (by decide))
  go_wp2_with fail
  refine C.out.mono ?_
  rintro e w5 ⟨v, rfl, hp, hb⟩
  obtain ⟨F5, c5, rfl⟩ := hp.form
  have B5 := Lib.hid hb
  have P5 := Lib.hid hp
  clear C hp hb
  have C := Lib.hid (is_new B w5 [6] 1 w5.heap.size rfl #[.int .i64 6] rfl rfl (by decide))
  go_wp2_with fail
  refine C.out.mono ?_
  rintro e w6 ⟨v, rfl, hp, hb⟩
  obtain ⟨F6, c6, rfl⟩ := hp.form
  have B6 := Lib.hid hb
  have P6 := Lib.hid hp
  clear C hp hb
  have b0 : Below w.heap.size w (w.alloc (.cells #[.int .i64 33, .int .i64 x2, .int .i64 x3, .string x4, .int .i64 x5, .slice A k.len cap] 25)) := bel1 w _
  have y2 := B1.out.trans (B2.out.mono B1.out.size)
  have y3 := y2.trans (B3.out.mono y2.size)
  have y4 := y3.trans (B4.out.mono y3.size)
  have y5 := y4.trans (B5.out.mono y4.size)
  have y6 := y5.trans (B6.out.mono y5.size)
  have BW : Hid (Below w.heap.size w w6) := b0.trans (y6.mono b0.size)
  have P5' := Lib.hid (P5.out.below B6.out)
  have P4' := Lib.hid ((P4.out.below B5.out).below B6.out)
  have P3' := Lib.hid (((P3.out.below B4.out).below B5.out).below B6.out)
  have P2' := Lib.hid ((((P2.out.below B3.out).below B4.out).below B5.out).below B6.out)
  have P1' := Lib.hid (((((P1.out.below B2.out).below B3.out).below B4.out).below B5.out).below B6.out)
  have RW : Hid (RowB w6 w.heap.size 25 #[.int .i64 33, .int .i64 x2, .int .i64 x3, .string x4, .int .i64 x5, .slice A k.len cap]) := R0.out.below y6 R0.out.lt
  have KW : Hid (KV w6 (fun g => g < B) k A cap) := HK.out.below BW.out
  have HL := Lib.hid hl
  have HS := Lib.hid hs
  clear b0 y2 y3 y4 y5 y6 P1 P2 P3 P4 P5 B1 B2 B3 B4 B5 B6 R0 HK hl hs
  have rc := RW.out.cell
  obtain ⟨a0, hks, h0⟩ := HS.out
  have C := Lib.hid (fit1 B w6 (.func (.func 54) #[] #[]) tyK a0 w6.heap.size rfl k A cap k.len hks rfl KW.out (istype_part B w6) h0)
  clear h0 hks
  go_wp2_with fail
  refine C.out.mono ?_
  rintro e w9 ⟨rfl, h9⟩
  have HF := Lib.hid (BW.out.trans (h9.mono BW.out.size))
  clear h9 C
  go_wp2_with fail
  (first | go_ret | go_ret2)
  exact ⟨rfl, HF.out⟩
theorem kids10 (B : Nat) (w : World) (x2 x3 : Nat) (x4 : ByteArray) (x5 : Nat) (k : Fo) (A : Option Addr) (cap : Nat) (hk : KV w (fun g => g < B) k A cap) (hs : shp 10 k.kinds) (hl : k.len ≤ 1000001) :
    Calls Tryz.prog 30 #[.agg #[.int .i64 10, .int .i64 x2, .int .i64 x3, .string x4, .int .i64 x5, .slice A k.len cap]] w fun e w' => e = .returned (.bool true) ∧ Below w.heap.size w w' := by
  have R0 := Lib.hid (RowB.new w 25 #[.int .i64 10, .int .i64 x2, .int .i64 x3, .string x4, .int .i64 x5, .slice A k.len cap])
  have HK := Lib.hid hk
  clear hk
  go_enter Tryz.func30, Tryz.ntmps30
  have C := Lib.hid (upto_any B (w.alloc (.cells #[.int .i64 10, .int .i64 x2, .int .i64 x3, .string x4, .int .i64 x5, .slice A k.len cap] 25)) 3 3 rfl)
  go_wp2_with fail
  refine C.out.mono ?_
  rintro e w1 ⟨v, rfl, hp, hb⟩
  obtain ⟨F1, c1, rfl⟩ := hp.form
  have B1 := Lib.hid hb
  have P1 := Lib.hid hp
  clear C hp hb
  have C := Lib.hid (upto_any B w1 2 2 rfl)
  go_wp2_with fail
  refine C.out.mono ?_
  rintro e w2 ⟨v, rfl, hp, hb⟩
  obtain ⟨F2, c2, rfl⟩ := hp.form
  have B2 := Lib.hid hb
  have P2 := Lib.hid hp
  clear C hp hb
  have C := Lib.hid (upto_any B w2 1 1 rfl)
  go_wp2_with fail
  refine C.out.mono ?_
  rintro e w3 ⟨v, rfl, hp, hb⟩
  obtain ⟨F3, c3, rfl⟩ := hp.form
  have B3 := Lib.hid hb
  have P3 := Lib.hid hp
  clear C hp hb
  have C := Lib.hid (upto_any B w3 0 0 rfl)
  go_wp2_with fail
  refine C.out.mono ?_
  rintro e w4 ⟨v, rfl, hp, hb⟩
  obtain ⟨F4, c4, rfl⟩ := hp.form
  have B4 := Lib.hid hb
  have P4 := Lib.hid hp
  clear C hp hb
  have C := Lib.hid (is_new B w4 [4] 1 w4.heap.size rfl #[.int .i64 4] rfl rfl (by decide))
  go_wp2_with fail
  refine C.out.mono ?_
  rintro e w5 ⟨v, rfl, hp, hb⟩
  obtain ⟨F5, c5, rfl⟩ := hp.form
  have B5 := Lib.hid hb
  have P5 := Lib.hid hp
  clear C hp hb
  have C := Lib.hid (is_new B w5 [6] 1 w5.heap.size rfl #[.int .i64 6] rfl rfl (by decide))
  go_wp2_with fail
  refine C.out.mono ?_
  rintro e w6 ⟨v, rfl, hp, hb⟩
  obtain ⟨F6, c6, rfl⟩ := hp.form
  have B6 := Lib.hid hb
  have P6 := Lib.hid hp
  clear C hp hb
  have b0 : Below w.heap.size w (w.alloc (.cells #[.int .i64 10, .int .i64 x2, .int .i64 x3, .string x4, .int .i64 x5, .slice A k.len cap] 25)) := bel1 w _
  have y2 := B1.out.trans (B2.out.mono B1.out.size)
  have y3 := y2.trans (B3.out.mono y2.size)
  have y4 := y3.trans (B4.out.mono y3.size)
  have y5 := y4.trans (B5.out.mono y4.size)
  have y6 := y5.trans (B6.out.mono y5.size)
  have BW : Hid (Below w.heap.size w w6) := b0.trans (y6.mono b0.size)
  have P5' := Lib.hid (P5.out.below B6.out)
  have P4' := Lib.hid ((P4.out.below B5.out).below B6.out)
  have P3' := Lib.hid (((P3.out.below B4.out).below B5.out).below B6.out)
  have P2' := Lib.hid ((((P2.out.below B3.out).below B4.out).below B5.out).below B6.out)
  have P1' := Lib.hid (((((P1.out.below B2.out).below B3.out).below B4.out).below B5.out).below B6.out)
  have RW : Hid (RowB w6 w.heap.size 25 #[.int .i64 10, .int .i64 x2, .int .i64 x3, .string x4, .int .i64 x5, .slice A k.len cap]) := R0.out.below y6 R0.out.lt
  have KW : Hid (KV w6 (fun g => g < B) k A cap) := HK.out.below BW.out
  have HL := Lib.hid hl
  have HS := Lib.hid hs
  clear b0 y2 y3 y4 y5 y6 P1 P2 P3 P4 P5 B1 B2 B3 B4 B5 B6 R0 HK hl hs
  have rc := RW.out.cell
  obtain ⟨a0, hks, h0⟩ := HS.out
  have C := Lib.hid (fit2 B w6 (.func (.func F1) #[] c1) (.func (.func F6) #[] c6) (up 3) (· ∈ [6]) a0 6 w6.heap.size rfl k A cap k.len hks rfl KW.out P1'.out h0 P6.out (by decide))
  clear h0 hks
  go_wp2_with fail
  refine C.out.mono ?_
  rintro e w9 ⟨rfl, h9⟩
  have HF := Lib.hid (BW.out.trans (h9.mono BW.out.size))
  clear h9 C
  go_wp2_with fail
  (first | go_ret | go_ret2)
  exact ⟨rfl, HF.out⟩
theorem kids34 (B : Nat) (w : World) (x2 x3 : Nat) (x4 : ByteArray) (x5 : Nat) (k : Fo) (A : Option Addr) (cap : Nat) (hk : KV w (fun g => g < B) k A cap) (hs : shp 34 k.kinds) (hl : k.len ≤ 1000001) :
    Calls Tryz.prog 30 #[.agg #[.int .i64 34, .int .i64 x2, .int .i64 x3, .string x4, .int .i64 x5, .slice A k.len cap]] w fun e w' => e = .returned (.bool true) ∧ Below w.heap.size w w' := by
  have R0 := Lib.hid (RowB.new w 25 #[.int .i64 34, .int .i64 x2, .int .i64 x3, .string x4, .int .i64 x5, .slice A k.len cap])
  have HK := Lib.hid hk
  clear hk
  go_enter Tryz.func30, Tryz.ntmps30
  have C := Lib.hid (upto_any B (w.alloc (.cells #[.int .i64 34, .int .i64 x2, .int .i64 x3, .string x4, .int .i64 x5, .slice A k.len cap] 25)) 3 3 rfl)
  go_wp2_with fail
  refine C.out.mono ?_
  rintro e w1 ⟨v, rfl, hp, hb⟩
  obtain ⟨F1, c1, rfl⟩ := hp.form
  have B1 := Lib.hid hb
  have P1 := Lib.hid hp
  clear C hp hb
  have C := Lib.hid (upto_any B w1 2 2 rfl)
  go_wp2_with fail
  refine C.out.mono ?_
  rintro e w2 ⟨v, rfl, hp, hb⟩
  obtain ⟨F2, c2, rfl⟩ := hp.form
  have B2 := Lib.hid hb
  have P2 := Lib.hid hp
  clear C hp hb
  have C := Lib.hid (upto_any B w2 1 1 rfl)
  go_wp2_with fail
  refine C.out.mono ?_
  rintro e w3 ⟨v, rfl, hp, hb⟩
  obtain ⟨F3, c3, rfl⟩ := hp.form
  have B3 := Lib.hid hb
  have P3 := Lib.hid hp
  clear C hp hb
  have C := Lib.hid (upto_any B w3 0 0 rfl)
  go_wp2_with fail
  refine C.out.mono ?_
  rintro e w4 ⟨v, rfl, hp, hb⟩
  obtain ⟨F4, c4, rfl⟩ := hp.form
  have B4 := Lib.hid hb
  have P4 := Lib.hid hp
  clear C hp hb
  have C := Lib.hid (is_new B w4 [4] 1 w4.heap.size rfl #[.int .i64 4] rfl rfl (by decide))
  go_wp2_with fail
  refine C.out.mono ?_
  rintro e w5 ⟨v, rfl, hp, hb⟩
  obtain ⟨F5, c5, rfl⟩ := hp.form
  have B5 := Lib.hid hb
  have P5 := Lib.hid hp
  clear C hp hb
  have C := Lib.hid (is_new B w5 [6] 1 w5.heap.size rfl #[.int .i64 6] rfl rfl (by decide))
  go_wp2_with fail
  refine C.out.mono ?_
  rintro e w6 ⟨v, rfl, hp, hb⟩
  obtain ⟨F6, c6, rfl⟩ := hp.form
  have B6 := Lib.hid hb
  have P6 := Lib.hid hp
  clear C hp hb
  have b0 : Below w.heap.size w (w.alloc (.cells #[.int .i64 34, .int .i64 x2, .int .i64 x3, .string x4, .int .i64 x5, .slice A k.len cap] 25)) := bel1 w _
  have y2 := B1.out.trans (B2.out.mono B1.out.size)
  have y3 := y2.trans (B3.out.mono y2.size)
  have y4 := y3.trans (B4.out.mono y3.size)
  have y5 := y4.trans (B5.out.mono y4.size)
  have y6 := y5.trans (B6.out.mono y5.size)
  have BW : Hid (Below w.heap.size w w6) := b0.trans (y6.mono b0.size)
  have P5' := Lib.hid (P5.out.below B6.out)
  have P4' := Lib.hid ((P4.out.below B5.out).below B6.out)
  have P3' := Lib.hid (((P3.out.below B4.out).below B5.out).below B6.out)
  have P2' := Lib.hid ((((P2.out.below B3.out).below B4.out).below B5.out).below B6.out)
  have P1' := Lib.hid (((((P1.out.below B2.out).below B3.out).below B4.out).below B5.out).below B6.out)
  have RW : Hid (RowB w6 w.heap.size 25 #[.int .i64 34, .int .i64 x2, .int .i64 x3, .string x4, .int .i64 x5, .slice A k.len cap]) := R0.out.below y6 R0.out.lt
  have KW : Hid (KV w6 (fun g => g < B) k A cap) := HK.out.below BW.out
  have HL := Lib.hid hl
  have HS := Lib.hid hs
  clear b0 y2 y3 y4 y5 y6 P1 P2 P3 P4 P5 B1 B2 B3 B4 B5 B6 R0 HK hl hs
  have rc := RW.out.cell
  obtain ⟨h0, h1⟩ := HS.out
  have hl0 : k.len ≠ 0 := by rw [← kinds_len]; intro h; exact h0 (List.length_eq_zero_iff.mp h)
  have hl1 : ((k.len : Nat) : Int) > 0 := by omega
  have C := Lib.hid (eachk B w6 (.func (.func 54) #[] #[]) tyK k A cap k.len (istype_part B w6) KW.out h1 HL.out rfl)
  clear h0 h1 hl0
  go_wp2_with fail
  refine C.out.mono ?_
  rintro e w9 ⟨rfl, h9⟩
  have HF := Lib.hid (BW.out.trans (h9.mono BW.out.size))
  clear h9 C
  go_wp2_with fail
  (first | go_ret | go_ret2)
  exact ⟨rfl, HF.out⟩
end Pg
end Go.Proofs.YtiabkkdeonepgaaGreatDoor
namespace Go.Proofs.YtiabkkdeonepgaaGreatDoor
open Go.RowKit
namespace Pg
open Ps
theorem kids9 (B : Nat) (w : World) (x2 x3 : Nat) (x4 : ByteArray) (x5 : Nat) (k : Fo) (A : Option Addr) (cap : Nat) (hk : KV w (fun g => g < B) k A cap) (hs : shp 9 k.kinds) (hl : k.len ≤ 1000001) :
    Calls Tryz.prog 30 #[.agg #[.int .i64 9, .int .i64 x2, .int .i64 x3, .string x4, .int .i64 x5, .slice A k.len cap]] w fun e w' => e = .returned (.bool true) ∧ Below w.heap.size w w' := by
  have R0 := Lib.hid (RowB.new w 25 #[.int .i64 9, .int .i64 x2, .int .i64 x3, .string x4, .int .i64 x5, .slice A k.len cap])
  have HK := Lib.hid hk
  clear hk
  go_enter Tryz.func30, Tryz.ntmps30
  have C := Lib.hid (upto_any B (w.alloc (.cells #[.int .i64 9, .int .i64 x2, .int .i64 x3, .string x4, .int .i64 x5, .slice A k.len cap] 25)) 3 3 rfl)
  go_wp2_with fail
  refine C.out.mono ?_
  rintro e w1 ⟨v, rfl, hp, hb⟩
  obtain ⟨F1, c1, rfl⟩ := hp.form
  have B1 := Lib.hid hb
  have P1 := Lib.hid hp
  clear C hp hb
  have C := Lib.hid (upto_any B w1 2 2 rfl)
  go_wp2_with fail
  refine C.out.mono ?_
  rintro e w2 ⟨v, rfl, hp, hb⟩
  obtain ⟨F2, c2, rfl⟩ := hp.form
  have B2 := Lib.hid hb
  have P2 := Lib.hid hp
  clear C hp hb
  have C := Lib.hid (upto_any B w2 1 1 rfl)
  go_wp2_with fail
  refine C.out.mono ?_
  rintro e w3 ⟨v, rfl, hp, hb⟩
  obtain ⟨F3, c3, rfl⟩ := hp.form
  have B3 := Lib.hid hb
  have P3 := Lib.hid hp
  clear C hp hb
  have C := Lib.hid (upto_any B w3 0 0 rfl)
  go_wp2_with fail
  refine C.out.mono ?_
  rintro e w4 ⟨v, rfl, hp, hb⟩
  obtain ⟨F4, c4, rfl⟩ := hp.form
  have B4 := Lib.hid hb
  have P4 := Lib.hid hp
  clear C hp hb
  have C := Lib.hid (is_new B w4 [4] 1 w4.heap.size rfl #[.int .i64 4] rfl rfl (by decide))
  go_wp2_with fail
  refine C.out.mono ?_
  rintro e w5 ⟨v, rfl, hp, hb⟩
  obtain ⟨F5, c5, rfl⟩ := hp.form
  have B5 := Lib.hid hb
  have P5 := Lib.hid hp
  clear C hp hb
  have C := Lib.hid (is_new B w5 [6] 1 w5.heap.size rfl #[.int .i64 6] rfl rfl (by decide))
  go_wp2_with fail
  refine C.out.mono ?_
  rintro e w6 ⟨v, rfl, hp, hb⟩
  obtain ⟨F6, c6, rfl⟩ := hp.form
  have B6 := Lib.hid hb
  have P6 := Lib.hid hp
  clear C hp hb
  have b0 : Below w.heap.size w (w.alloc (.cells #[.int .i64 9, .int .i64 x2, .int .i64 x3, .string x4, .int .i64 x5, .slice A k.len cap] 25)) := bel1 w _
  have y2 := B1.out.trans (B2.out.mono B1.out.size)
  have y3 := y2.trans (B3.out.mono y2.size)
  have y4 := y3.trans (B4.out.mono y3.size)
  have y5 := y4.trans (B5.out.mono y4.size)
  have y6 := y5.trans (B6.out.mono y5.size)
  have BW : Hid (Below w.heap.size w w6) := b0.trans (y6.mono b0.size)
  have P5' := Lib.hid (P5.out.below B6.out)
  have P4' := Lib.hid ((P4.out.below B5.out).below B6.out)
  have P3' := Lib.hid (((P3.out.below B4.out).below B5.out).below B6.out)
  have P2' := Lib.hid ((((P2.out.below B3.out).below B4.out).below B5.out).below B6.out)
  have P1' := Lib.hid (((((P1.out.below B2.out).below B3.out).below B4.out).below B5.out).below B6.out)
  have RW : Hid (RowB w6 w.heap.size 25 #[.int .i64 9, .int .i64 x2, .int .i64 x3, .string x4, .int .i64 x5, .slice A k.len cap]) := R0.out.below y6 R0.out.lt
  have KW : Hid (KV w6 (fun g => g < B) k A cap) := HK.out.below BW.out
  have HL := Lib.hid hl
  have HS := Lib.hid hs
  clear b0 y2 y3 y4 y5 y6 P1 P2 P3 P4 P5 B1 B2 B3 B4 B5 B6 R0 HK hl hs
  have rc := RW.out.cell
  obtain ⟨a0, o0, hks, h0, h1⟩ := HS.out
  have HKS := Lib.hid hks
  have H0 := Lib.hid h0
  have H1 := Lib.hid h1
  clear hks h0 h1
  have BD : Hid (Below w.heap.size w w6.drew) := Below.drew BW.out
  have RD : Hid (RowB w6.drew w.heap.size 25 #[.int .i64 9, .int .i64 x2, .int .i64 x3, .string x4, .int .i64 x5, .slice A k.len cap]) := RW.out
  have rd := RD.out.cell
  have KD : Hid (KV w6.drew (fun g => g < B) k A cap) := KW.out.below (Below.drew (Below.refl _ _))
  have hd6 : Below w6.heap.size w6 w6.drew := Below.drew (Below.refl _ _)
  have D1 := Lib.hid (P1'.out.below hd6)
  have D5 := Lib.hid (P5'.out.below hd6)
  have D6 := Lib.hid (P6.out.below hd6)
  clear hd6
  have C53 := Lib.hid (ornone_any B w6.drew (.func (.func F6) #[] c6) _ D6.out)
  have HS0 := rd
  go_wp2_with fail
  go_region_held3 (fun w' => ∀ j, w'.cell? ⟨w.heap.size, j, none⟩ = #[.int .i64 9, .int .i64 x2, .int .i64 x3, .string x4, .int .i64 x5, .slice A k.len cap][j]?)
    (first
      | (with_reducible exact HS2)
      | (with_reducible exact HSB)
      | (with_reducible exact HS1)
      | (with_reducible exact HS0)
      | (with_reducible exact HSA)
      | exact HSB
      | exact HSA)
    (first
    | (go_at_call 53; refine (C53.out).mono ?_; rintro e w7 ⟨u, rfl, hp7, hb7⟩; obtain ⟨F7, c7, rfl⟩ := hp7.form; have B7 := Lib.hid (BD.out.trans (hb7.mono BD.out.size)); have K7 := Lib.hid (KD.out.below hb7); have RR := Lib.hid (RD.out.below hb7 RD.out.lt); have r7 := RR.out.cell; have P7 := Lib.hid hp7; have E1 := Lib.hid (D1.out.below hb7); have E5 := Lib.hid (D5.out.below hb7); have E6 := Lib.hid (D6.out.below hb7); clear hp7 hb7; have HS1 := r7; have HSB := (RR.out.alloc (.cells #[(.func (.func F1) #[] c1), (.func (.func F6) #[] c6), (.func (.func F7) #[] c7)] 93)).cell)
    | (go_at_call 52; refine (fit3 B w7 (.func (.func F1) #[] c1) (.func (.func F6) #[] c6) (.func (.func F7) #[] c7) (up 3) (· ∈ [6]) (fun x => x = 0 ∨ x ∈ [6]) a0 6 o0 w7.heap.size rfl k A cap k.len HKS.out rfl K7.out E1.out H0.out E6.out (by decide) P7.out (H1.out.imp id fun h => by rw [h]; decide)).mono ?_; rintro e w9 ⟨rfl, h9⟩; have HF := Lib.hid (B7.out.trans (h9.mono B7.out.size)); have HS2 := (RR.out.below h9 RR.out.lt).cell; clear h9)
    | fail)
  go_wp2
  (first | go_ret | go_ret2)
  exact ⟨rfl, HF.out⟩
theorem kids1 (B : Nat) (w : World) (x2 x3 : Nat) (x4 : ByteArray) (x5 : Nat) (k : Fo) (A : Option Addr) (cap : Nat) (hk : KV w (fun g => g < B) k A cap) (hs : shp 1 k.kinds) (hl : k.len ≤ 1000001) :
    Calls Tryz.prog 30 #[.agg #[.int .i64 1, .int .i64 x2, .int .i64 x3, .string x4, .int .i64 x5, .slice A k.len cap]] w fun e w' => e = .returned (.bool true) ∧ Below w.heap.size w w' := by
  have R0 := Lib.hid (RowB.new w 25 #[.int .i64 1, .int .i64 x2, .int .i64 x3, .string x4, .int .i64 x5, .slice A k.len cap])
  have HK := Lib.hid hk
  clear hk
  go_enter Tryz.func30, Tryz.ntmps30
  have C := Lib.hid (upto_any B (w.alloc (.cells #[.int .i64 1, .int .i64 x2, .int .i64 x3, .string x4, .int .i64 x5, .slice A k.len cap] 25)) 3 3 rfl)
  go_wp2_with fail
  refine C.out.mono ?_
  rintro e w1 ⟨v, rfl, hp, hb⟩
  obtain ⟨F1, c1, rfl⟩ := hp.form
  have B1 := Lib.hid hb
  have P1 := Lib.hid hp
  clear C hp hb
  have C := Lib.hid (upto_any B w1 2 2 rfl)
  go_wp2_with fail
  refine C.out.mono ?_
  rintro e w2 ⟨v, rfl, hp, hb⟩
  obtain ⟨F2, c2, rfl⟩ := hp.form
  have B2 := Lib.hid hb
  have P2 := Lib.hid hp
  clear C hp hb
  have C := Lib.hid (upto_any B w2 1 1 rfl)
  go_wp2_with fail
  refine C.out.mono ?_
  rintro e w3 ⟨v, rfl, hp, hb⟩
  obtain ⟨F3, c3, rfl⟩ := hp.form
  have B3 := Lib.hid hb
  have P3 := Lib.hid hp
  clear C hp hb
  have C := Lib.hid (upto_any B w3 0 0 rfl)
  go_wp2_with fail
  refine C.out.mono ?_
  rintro e w4 ⟨v, rfl, hp, hb⟩
  obtain ⟨F4, c4, rfl⟩ := hp.form
  have B4 := Lib.hid hb
  have P4 := Lib.hid hp
  clear C hp hb
  have C := Lib.hid (is_new B w4 [4] 1 w4.heap.size rfl #[.int .i64 4] rfl rfl (by decide))
  go_wp2_with fail
  refine C.out.mono ?_
  rintro e w5 ⟨v, rfl, hp, hb⟩
  obtain ⟨F5, c5, rfl⟩ := hp.form
  have B5 := Lib.hid hb
  have P5 := Lib.hid hp
  clear C hp hb
  have C := Lib.hid (is_new B w5 [6] 1 w5.heap.size rfl #[.int .i64 6] rfl rfl (by decide))
  go_wp2_with fail
  refine C.out.mono ?_
  rintro e w6 ⟨v, rfl, hp, hb⟩
  obtain ⟨F6, c6, rfl⟩ := hp.form
  have B6 := Lib.hid hb
  have P6 := Lib.hid hp
  clear C hp hb
  have b0 : Below w.heap.size w (w.alloc (.cells #[.int .i64 1, .int .i64 x2, .int .i64 x3, .string x4, .int .i64 x5, .slice A k.len cap] 25)) := bel1 w _
  have y2 := B1.out.trans (B2.out.mono B1.out.size)
  have y3 := y2.trans (B3.out.mono y2.size)
  have y4 := y3.trans (B4.out.mono y3.size)
  have y5 := y4.trans (B5.out.mono y4.size)
  have y6 := y5.trans (B6.out.mono y5.size)
  have BW : Hid (Below w.heap.size w w6) := b0.trans (y6.mono b0.size)
  have P5' := Lib.hid (P5.out.below B6.out)
  have P4' := Lib.hid ((P4.out.below B5.out).below B6.out)
  have P3' := Lib.hid (((P3.out.below B4.out).below B5.out).below B6.out)
  have P2' := Lib.hid ((((P2.out.below B3.out).below B4.out).below B5.out).below B6.out)
  have P1' := Lib.hid (((((P1.out.below B2.out).below B3.out).below B4.out).below B5.out).below B6.out)
  have RW : Hid (RowB w6 w.heap.size 25 #[.int .i64 1, .int .i64 x2, .int .i64 x3, .string x4, .int .i64 x5, .slice A k.len cap]) := R0.out.below y6 R0.out.lt
  have KW : Hid (KV w6 (fun g => g < B) k A cap) := HK.out.below BW.out
  have HL := Lib.hid hl
  have HS := Lib.hid hs
  clear b0 y2 y3 y4 y5 y6 P1 P2 P3 P4 P5 B1 B2 B3 B4 B5 B6 R0 HK hl hs
  have rc := RW.out.cell
  have BD : Hid (Below w.heap.size w w6.drew) := Below.drew BW.out
  have RD : Hid (RowB w6.drew w.heap.size 25 #[.int .i64 1, .int .i64 x2, .int .i64 x3, .string x4, .int .i64 x5, .slice A k.len cap]) := RW.out
  have rd := RD.out.cell
  have KD : Hid (KV w6.drew (fun g => g < B) k A cap) := KW.out.below (Below.drew (Below.refl _ _))
  have hd6 : Below w6.heap.size w6 w6.drew := Below.drew (Below.refl _ _)
  have D1 := Lib.hid (P1'.out.below hd6)
  have D5 := Lib.hid (P5'.out.below hd6)
  have D6 := Lib.hid (P6.out.below hd6)
  clear hd6
  have C51 := Lib.hid (is_new B w6.drew [2, 3] 2 w6.heap.size rfl #[.int .i64 2, .int .i64 3] rfl rfl (by decide))
  have HS0 := rd
  have HSA := (RD.out.alloc (.cells #[.int .i64 2, .int .i64 3] 3)).cell
  go_wp2_with fail
  go_region_held3 (fun w' => ∀ j, w'.cell? ⟨w.heap.size, j, none⟩ = #[.int .i64 1, .int .i64 x2, .int .i64 x3, .string x4, .int .i64 x5, .slice A k.len cap][j]?)
    (first
      | (with_reducible exact HS2)
      | (with_reducible exact HSB)
      | (with_reducible exact HS1)
      | (with_reducible exact HS0)
      | (with_reducible exact HSA)
      | exact HSB
      | exact HSA)
    (first
    | (go_at_call 51; refine (C51.out).mono ?_; rintro e w7 ⟨u, rfl, hp7, hb7⟩; obtain ⟨F7, c7, rfl⟩ := hp7.form; have B7 := Lib.hid (BD.out.trans (hb7.mono BD.out.size)); have K7 := Lib.hid (KD.out.below hb7); have RR := Lib.hid (RD.out.below hb7 RD.out.lt); have r7 := RR.out.cell; have P7 := Lib.hid hp7; clear hp7 hb7; have HS1 := r7)
    | (go_at_call 31; refine (eachk B w7 (.func (.func F7) #[] c7) _ k A cap k.len P7.out K7.out (fun x hx => by have := HS.out x hx; simp; omega) HL.out rfl).mono ?_; rintro e w9 ⟨rfl, h9⟩; have HF := Lib.hid (B7.out.trans (h9.mono B7.out.size)); have HS2 := (RR.out.below h9 RR.out.lt).cell; clear h9)
    | fail)
  go_wp2
  (first | go_ret | go_ret2)
  exact ⟨rfl, HF.out⟩
end Pg
end Go.Proofs.YtiabkkdeonepgaaGreatDoor
