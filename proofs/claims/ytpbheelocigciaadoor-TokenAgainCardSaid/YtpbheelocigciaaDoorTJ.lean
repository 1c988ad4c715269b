/- Contracts: the text of some tokens. -/
import Derived.Test.YtpbheelocigciaaDoorWR
import Derived.Test.YtpbheelocigciaaDoorShB
import Derived.Test.YtpbheelocigciaaDoorTG
namespace Go.Proofs.YtpbheelocigciaaDoor
open Go.RowKit

/-- The bytes of some tokens. -/
def jl (l : List Tok) : List UInt8 := l.flatMap fun t => t.lead.data.toList ++ t.text.data.toList
theorem jl_append (a b : List Tok) : jl (a ++ b) = jl a ++ jl b := by simp [jl]
theorem jl_take (l : List Tok) (i : Nat) (h : i < l.length) : jl (l.take (i + 1)) = jl (l.take i) ++ (l[i].lead.data.toList ++ l[i].text.data.toList) := by
  rw [List.take_succ_eq_append_getElem h, jl_append]
  simp [jl]
theorem jl_part (l : List Tok) (i : Nat) (h : i < l.length) : (jl (l.take i)).length + (l[i].lead.size + l[i].text.size) ≤ (jl l).length := by
  have e := congrArg jl (List.take_append_drop (i + 1) l)
  rw [jl_append, jl_take l i h] at e
  rw [← e]
  simp only [List.length_append, Array.length_toList, ByteArray.size_data]
  omega
theorem builder_below {w w' : World} {B b : Nat} {bs : List Value} (h : Lib.IsBuilder 63 5 B b bs w) (hb : Below w.heap.size w w') : Lib.IsBuilder 63 5 B b bs w' := by
  have key : ∀ {k : Nat} {o : Obj}, w.heap[k]? = some o → w'.heap[k]? = some o := fun {k o} hk => by
    have hlt : k < w.heap.size := by
      rcases Nat.lt_or_ge k w.heap.size with h | h
      · exact h
      · rw [Array.getElem?_eq_none h] at hk; cases hk
    rw [hb.block k hlt]; exact hk
  rcases h with ⟨h1, v, h2, h3, h4⟩ | ⟨h1, v, h2, h3, h4⟩
  · exact .inl ⟨h1, v, key h2, own_below h3 hb, h4⟩
  · exact .inr ⟨h1, v, key h2, own_below h3 hb, h4⟩
theorem builder_lt {w : World} {B b : Nat} {bs : List Value} (h : Lib.IsBuilder 63 5 B b bs w) : b < w.heap.size := by
  have key : ∀ {o : Obj}, w.heap[b]? = some o → b < w.heap.size := fun {o} hk => by
    rcases Nat.lt_or_ge b w.heap.size with h | h
    · exact h
    · rw [Array.getElem?_eq_none h] at hk; cases hk
  rcases h with ⟨_, _, h2, _⟩ | ⟨_, _, h2, _⟩
  · exact key h2
  · exact key h2
theorem row_others {w w' : World} {g t e : Nat} {v : Nat} {cs : Array Value} (h : RowB w g t cs) (ho : Lib.OthersKept e (some v) w w') (hv : g ≠ v) (ht : t ≠ e) : RowB w' g t cs :=
  ho g _ h (fun hh => hv (by injection hh)) (fun c fz hh => ht (by injection hh))

set_option maxHeartbeats 4000000 in
set_option maxRecDepth 100000 in
theorem join_any (l : List Tok) (A : Option Addr) (cap : Nat) (w : World) (hA : TokAt w A l) (hl : l.length ≤ 4000) (hcap : 0 < l.length → l.length ≤ cap) (hj : (jl l).length ≤ 100000) :
    Calls Tryd.prog 29 #[.slice A l.length cap] w fun e w' => e = .returned (.string ⟨(jl l).toArray⟩) ∧ Below w.heap.size w w' := by
  have HA := Lib.hid hA
  have HJ := Lib.hid hj
  have HC := Lib.hid hcap
  have HB0 : Hid (Lib.IsBuilder 63 5 w.heap.size w.heap.size [] (w.alloc (.cells #[.pointer none, .slice none 0 0] 63))) := Lib.fresh_isBuilder 63 5 w
  have HBA := Lib.hid ((Below.refl w.heap.size w).alloc (Nat.le_refl _) (.cells #[.pointer none, .slice none 0 0] 63))
  clear hA hj hcap
  go_enter Tryd.func29, Tryd.ntmps29
  go_wp2_with fail
  go_loopg [8] l.length (fun kx x wr => ∃ i : Nat, x = .int .i64 i ∧ i ≤ l.length ∧ l.length - i ≤ kx ∧ Hid (Lib.IsBuilder 63 5 w.heap.size w.heap.size (Lib.byteCells (jl (l.take i))) wr) ∧ Below w.heap.size w wr)
  case atStart => exact ⟨0, rfl, by omega, by omega, HB0.out, HBA.out⟩
  case round =>
    obtain ⟨i, rfl, hi, hkx, HB, hbw⟩ := hrel
    by_cases hlt : i < l.length
    · have hlz : (i : Int) < (l.length : Int) := by omega
      obtain ⟨g, rfl, hg, hc⟩ := (HA.out.below hbw) (by omega)
      obtain ⟨q0, q1, q2, q3⟩ := hc i hlt
      have hcp := HC.out (by omega)
      have hpart := jl_part l i hlt
      have HJT := Lib.hid (jl_take l i hlt)
      generalize l[i].kind = kd at q0
      generalize l[i].at_ = a at q1
      generalize l[i].lead = ld at q2 HJT hpart
      generalize l[i].text = tx at q3 HJT hpart
      have hle : (jl (l.take i)).length + (ld.size + tx.size) ≤ 100000 := Nat.le_trans hpart HJ.out
      have HBW := Lib.hid hbw
      have HT := Lib.hid (RowB.new wr 48 #[.int .i64 kd, .int .i64 a, .string ld, .string tx])
      have HB1 : Hid (Lib.IsBuilder 63 5 w.heap.size w.heap.size (Lib.byteCells (jl (l.take i))) (wr.alloc (.cells #[.int .i64 kd, .int .i64 a, .string ld, .string tx] 48))) := builder_below HB.out ((Below.refl _ _).alloc (Nat.le_refl _) _)
      clear hc hpart hbw
      go_wp2_with fail
      refine (write_any w.heap.size w.heap.size _ ld _ HB1.out (by rw [Lib.byteCells_length]; omega) (by have := HBW.out.size; simp; omega)).mono ?_
      rintro e w1 ⟨rfl, h1, h2, h3⟩
      have HB2 := Lib.hid h1
      have HT1 := Lib.hid (row_others HT.out h3 (by have := builder_lt HB.out; omega) (by decide))
      have HBW1 := Lib.hid ((HBW.out.alloc HBW.out.size (.cells #[.int .i64 kd, .int .i64 a, .string ld, .string tx] 48)).trans h2)
      have q4 : w1.cell? ⟨wr.heap.size, 3, none⟩ = some (.string tx) := HT1.out.cell 3
      clear h1 h2 h3 q0 q1 q2 q3
      go_wp2_with fail
      refine (write_any w.heap.size w.heap.size _ tx _ HB2.out (by rw [List.length_append, Lib.byteCells_length, Lib.strCells_length]; omega) HBW1.out.size).mono ?_
      rintro e w2 ⟨rfl, h1, h2, h3⟩
      have HB3 : Hid (Lib.IsBuilder 63 5 w.heap.size w.heap.size (Lib.byteCells (jl (l.take (i + 1)))) w2) := by
        show Lib.IsBuilder _ _ _ _ _ _
        rw [HJT.out, Lib.byteCells_append, Lib.byteCells_append, ← List.append_assoc]
        exact h1
      have HBW2 := Lib.hid (HBW1.out.trans h2)
      clear h1 h2 h3 q4
      go_wp2_with fail
      go_roundg (l.length - (i + 1))
      case measure => omega
      case rel => exact ⟨i + 1, by simp, by omega, by omega, HB3.out, HBW2.out⟩
    · obtain rfl : i = l.length := by omega
      have hlz : ¬ (l.length : Int) < (l.length : Int) := by omega
      have hE : Hid (Lib.IsBuilder 63 5 w.heap.size w.heap.size (Lib.byteCells (jl l)) wr) := by
        have := HB.out
        rwa [List.take_of_length_le (by omega)] at this
      have HBW := Lib.hid hbw
      clear hbw hlt
      go_wp2_with fail
      refine (sh_Builder_String_any w.heap.size w.heap.size (jl l) wr hE.out HBW.out.size).mono ?_
      rintro e w1 ⟨rfl, hb⟩
      have HBW1 := Lib.hid (HBW.out.trans hb)
      clear hb
      go_wp2_with fail
      go_ret
      exact ⟨rfl, HBW1.out⟩
end Go.Proofs.YtpbheelocigciaaDoor
