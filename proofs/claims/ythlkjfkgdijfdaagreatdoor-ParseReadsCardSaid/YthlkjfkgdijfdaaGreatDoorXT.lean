/- Contracts: the text of some tokens. -/
import Derived.Test.YthlkjfkgdijfdaaGreatDoorWR
import Derived.Test.YthlkjfkgdijfdaaGreatDoorShB
import Derived.Test.YthlkjfkgdijfdaaGreatDoorXC
namespace Go.Proofs.YthlkjfkgdijfdaaGreatDoor
open Go.RowKit

/-- The bytes of some tokens. -/
def jl (l : List Tok) : List UInt8 := l.flatMap fun t => t.lead.data.toList ++ t.text.data.toList
theorem jl_append (a b : List Tok) : jl (a ++ b) = jl a ++ jl b := by simp [jl]
theorem jl_take (l : List Tok) (i : Nat) (h : i < l.length) : jl (l.take (i + 1)) = jl (l.take i) ++ (l[i].lead.data.toList ++ l[i].text.data.toList) := by
  rw [List.take_succ_eq_append_getElem h, jl_append]
  simp [jl]
theorem jl_part (l : List Tok) (i : Nat) (h : i < l.length) : (jl (l.take i)).length + (l[i].lead.size + l[i].text.size) ≤ (jl l).length := by
  have e := congrArg jl (List.take_append_drop (i + 1) l)
  rw [jl_append, jl_take l i h] at e
  rw [← e]
  simp only [List.length_append, Array.length_toList, ByteArray.size_data]
  omega
theorem builder_below {w w' : World} {B b : Nat} {bs : List Value} (h : Lib.IsBuilder 66 5 B b bs w) (hb : Below w.heap.size w w') : Lib.IsBuilder 66 5 B b bs w' := by
  have key : ∀ {k : Nat} {o : Obj}, w.heap[k]? = some o → w'.heap[k]? = some o := fun {k o} hk => by
    have hlt : k < w.heap.size := by
      rcases Nat.lt_or_ge k w.heap.size with h | h
      · exact h
      · rw [Array.getElem?_eq_none h] at hk; cases hk
    rw [hb.block k hlt]; exact hk
  rcases h with ⟨h1, v, h2, h3, h4⟩ | ⟨h1, v, h2, h3, h4⟩
  · exact .inl ⟨h1, v, key h2, own_below h3 hb, h4⟩
  · exact .inr ⟨h1, v, key h2, own_below h3 hb, h4⟩
theorem builder_lt {w : World} {B b : Nat} {bs : List Value} (h : Lib.IsBuilder 66 5 B b bs w) : b < w.heap.size := by
  have key : ∀ {o : Obj}, w.heap[b]? = some o → b < w.heap.size := fun {o} hk => by
    rcases Nat.lt_or_ge b w.heap.size with h | h
    · exact h
    · rw [Array.getElem?_eq_none h] at hk; cases hk
  rcases h with ⟨_, _, h2, _⟩ | ⟨_, _, h2, _⟩
  · exact key h2
  · exact key h2
theorem row_others {w w' : World} {g t e : Nat} {v : Nat} {cs : Array Value} (h : RowB w g t cs) (ho : Lib.OthersKept e (some v) w w') (hv : g ≠ v) (ht : t ≠ e) : RowB w' g t cs :=
  ho g _ h (fun hh => hv (by injection hh)) (fun c fz hh => ht (by injection hh))

set_option maxHeartbeats 4000000 in
set_option maxRecDepth 100000 in
theorem join_any (l : List Tok) (A : Option Addr) (cap : Nat) (w : World) (hA : TokAt w A l) (hl : l.length ≤ 4000) (hcap : 0 < l.length → l.length ≤ cap) (hj : (jl l).length ≤ 100000) :
    Calls Tryz.prog 16 #[.slice A l.length cap] w fun e w' => e = .returned (.string ⟨(jl l).toArray⟩) ∧ Below w.heap.size w w' := by
  have HA := Lib.hid hA
  have HJ := Lib.hid hj
  have HC := Lib.hid hcap
  have HB0 : Hid (Lib.IsBuilder 66 5 w.heap.size w.heap.size [] (w.alloc (.cells #[.pointer none, .slice none 0 0] 66))) := Lib.fresh_isBuilder 66 5 w
  have HBA := Lib.hid ((Below.refl w.heap.size w).alloc (Nat.le_refl _) (.cells #[.pointer none, .slice none 0 0] 66))
  clear hA hj hcap
  go_enter Tryz.func16, Tryz.ntmps16
  go_wp2_with fail
  go_loopg [8] l.length (fun kx x wr => ∃ i : Nat, x = .int .i64 i ∧ i ≤ l.length ∧ l.length - i ≤ kx ∧ Hid (Lib.IsBuilder 66 5 w.heap.size w.heap.size (Lib.byteCells (jl (l.take i))) wr) ∧ Below w.heap.size w wr)
  case atStart => exact ⟨0, rfl, by omega, by omega, HB0.out, HBA.out⟩
  case round =>
    obtain ⟨i, rfl, hi, hkx, HB, hbw⟩ := hrel
    by_cases hlt : i < l.length
    · have hlz : (i : Int) < (l.length : Int) := by omega
      obtain ⟨g, rfl, hg, hc⟩ := (HA.out.below hbw) (by omega)
      obtain ⟨q0, q1, q2, q3⟩ := hc i hlt
      have hcp := HC.out (by omega)
      have hpart := jl_part l i hlt
      have HJT := Lib.hid (jl_take l i hlt)
      generalize l[i].kind = kd at q0
      generalize l[i].at_ = a at q1
      generalize l[i].lead = ld at q2 HJT hpart
      generalize l[i].text = tx at q3 HJT hpart
      have hle : (jl (l.take i)).length + (ld.size + tx.size) ≤ 100000 := Nat.le_trans hpart HJ.out
      have HBW := Lib.hid hbw
      have HT := Lib.hid (RowB.new wr 48 #[.int .i64 kd, .int .i64 a, .string ld, .string tx])
      have HB1 : Hid (Lib.IsBuilder 66 5 w.heap.size w.heap.size (Lib.byteCells (jl (l.take i))) (wr.alloc (.cells #[.int .i64 kd, .int .i64 a, .string ld, .string tx] 48))) := builder_below HB.out ((Below.refl _ _).alloc (Nat.le_refl _) _)
      clear hc hpart hbw
      go_wp2_with fail
      refine (write_any w.heap.size w.heap.size _ ld _ HB1.out (by rw [Lib.byteCells_length]; omega) (by have := HBW.out.size; simp; omega)).mono ?_
      rintro e w1 ⟨rfl, h1, h2, h3⟩
      have HB2 := Lib.hid h1
      have HT1 := Lib.hid (row_others HT.out h3 (by have := builder_lt HB.out; omega) (by decide))
      have HBW1 := Lib.hid ((HBW.out.alloc HBW.out.size (.cells #[.int .i64 kd, .int .i64 a, .string ld, .string tx] 48)).trans h2)
      have q4 : w1.cell? ⟨wr.heap.size, 3, none⟩ = some (.string tx) := HT1.out.cell 3
      clear h1 h2 h3 q0 q1 q2 q3
      go_wp2_with fail
      refine (write_any w.heap.size w.heap.size _ tx _ HB2.out (by rw [List.length_append, Lib.byteCells_length, Lib.strCells_length]; omega) HBW1.out.size).mono ?_
      rintro e w2 ⟨rfl, h1, h2, h3⟩
      have HB3 : Hid (Lib.IsBuilder 66 5 w.heap.size w.heap.size (Lib.byteCells (jl (l.take (i + 1)))) w2) := by
        show Lib.IsBuilder _ _ _ _ _ _
        rw [HJT.out, Lib.byteCells_append, Lib.byteCells_append, ← List.append_assoc]
        exact h1
      have HBW2 := Lib.hid (HBW1.out.trans h2)
      clear h1 h2 h3 q4
      go_wp2_with fail
      go_roundg (l.length - (i + 1))
      case measure => omega
      case rel => exact ⟨i + 1, by simp, by omega, by omega, HB3.out, HBW2.out⟩
    · obtain rfl : i = l.length := by omega
      have hlz : ¬ (l.length : Int) < (l.length : Int) := by omega
      have hE : Hid (Lib.IsBuilder 66 5 w.heap.size w.heap.size (Lib.byteCells (jl l)) wr) := by
        have := HB.out
        rwa [List.take_of_length_le (by omega)] at this
      have HBW := Lib.hid hbw
      clear hbw hlt
      go_wp2_with fail
      refine (sh_Builder_String_any w.heap.size w.heap.size (jl l) wr hE.out HBW.out.size).mono ?_
      rintro e w1 ⟨rfl, hb⟩
      have HBW1 := Lib.hid (HBW.out.trans hb)
      clear hb
      go_wp2_with fail
      go_ret
      exact ⟨rfl, HBW1.out⟩
end Go.Proofs.YthlkjfkgdijfdaaGreatDoor
/- Mathematics: the tokens of a text join to it, each at its place, the end last. -/
namespace Go.Proofs.YthlkjfkgdijfdaaGreatDoor
open Go.RowKit

/-- What is known of the tokens from a place on. -/
def Good (s : ByteArray) (k : Nat) (l : List Tok) : Prop :=
  jl l = tl s k ∧ 0 < l.length ∧ ∀ i (h : i < l.length), l[i].at_ = k + (jl (l.take i)).length + l[i].lead.size ∧ (l[i].kind = 0 ↔ i + 1 = l.length) ∧ (l[i].text.size = 0 ↔ l[i].kind = 0)
theorem cut_tl (s : ByteArray) (a b : Nat) (h : a ≤ b) (_hb : b ≤ s.size) : tl s a = (s.extract a b).data.toList ++ tl s b := by
  unfold tl
  rw [ByteArray.data_extract, Array.toList_extract, List.extract_eq_take_drop]
  have e := List.take_append_drop (b - a) (s.data.toList.drop a)
  rw [List.drop_drop, show a + (b - a) = b by omega] at e
  exact e.symm
theorem tok_bytes (s : ByteArray) (k : Nat) (h : k ≤ s.size) : tl s k = ((tokK s k).lead.data.toList ++ (tokK s k).text.data.toList) ++ tl s (endK s k) := by
  have h1 := atK_le s k h
  have h2 := endK_le s k h
  rw [cut_tl s k (atK s k) h1.1 h1.2, cut_tl s (atK s k) (endK s k) h2.1 h2.2, List.append_assoc]
  rfl
theorem tok_lead (s : ByteArray) (k : Nat) (h : k ≤ s.size) : (tokK s k).at_ = k + (tokK s k).lead.size := by
  have h1 := atK_le s k h
  show atK s k = k + (s.extract k (atK s k)).size
  rw [ByteArray.size_extract]
  omega
theorem tok_none (s : ByteArray) (k : Nat) (h : k ≤ s.size) (he : errK s k = 0) : ((tokK s k).text.size = 0 ↔ (tokK s k).kind = 0) ∧ ((tokK s k).kind = 0 → endK s k = s.size) := by
  obtain ⟨h1, h2⟩ := first_kind (tl s (atK s k)) he
  have h3 := tok_size s k h
  have h4 : endK s k = (tokK s k).at_ + (firstL (tl s (atK s k))).2.1 := rfl
  have h5 : (tokK s k).kind = (firstL (tl s (atK s k))).1 := rfl
  have h6 := tl_len s (atK s k)
  have h7 := atK_le s k h
  have h8 := endK_le s k h
  rw [h5]
  refine ⟨⟨fun hz => h1.2 (h2.1 (by omega)), fun hz => ?_⟩, fun hz => ?_⟩
  · have := h2.2 (h1.1 hz)
    omega
  · have := h1.1 hz
    rw [this] at h6
    simp at h6
    omega
theorem lexF_good (s : ByteArray) : ∀ (f k n : Nat) (l : List Tok), k ≤ s.size → lexF s f k n = .good l → Good s k l
  | 0, k, n, l, hk, h => by simp [lexF] at h
  | f + 1, k, n, l, hk, h => by
    by_cases he : errK s k = 0
    · by_cases hn : n = 4000
      · subst hn; rw [lexF_many he] at h; cases h
      · have hb := tok_bytes s k hk
        have hl := tok_lead s k hk
        obtain ⟨hx, hz⟩ := tok_none s k hk he
        by_cases h0 : (tokK s k).kind = 0
        · rw [lexF_end he hn h0] at h
          cases h
          rw [hz h0, tl_end s s.size (Nat.le_refl _), List.append_nil] at hb
          refine ⟨by rw [hb]; simp [jl], by simp, fun i hi => ?_⟩
          obtain rfl : i = 0 := by simp at hi; omega
          simp only [List.getElem_cons_zero, List.take_zero, List.length_cons, List.length_nil]
          exact ⟨by simpa [jl] using hl, by simp [h0], hx⟩
        · rw [lexF_next he hn h0] at h
          cases hr : lexF s f (endK s k) (n + 1) with
          | bad e a => rw [hr] at h; cases h
          | good l' =>
            rw [hr] at h
            cases h
            obtain ⟨g1, g2, g3⟩ := lexF_good s f (endK s k) (n + 1) l' (endK_le s k hk).2 hr
            have hts := tok_size s k hk
            refine ⟨by rw [hb, ← g1]; simp [jl], by simp, fun i hi => ?_⟩
            cases i with
            | zero =>
              simp only [List.cons_append, List.nil_append, List.getElem_cons_zero, List.take_zero, List.length_cons]
              exact ⟨by simpa [jl] using hl, ⟨fun e => absurd e h0, fun e => by omega⟩, hx⟩
            | succ j =>
              simp only [List.cons_append, List.nil_append, List.length_cons] at hi ⊢
              obtain ⟨a1, a2, a3⟩ := g3 j (by omega)
              simp only [List.getElem_cons_succ, List.take_succ_cons]
              refine ⟨?_, by rw [a2]; omega, a3⟩
              rw [a1]
              have : (jl (tokK s k :: l'.take j)).length = (tokK s k).lead.size + (tokK s k).text.size + (jl (l'.take j)).length := by
                simp [jl, Nat.add_assoc]
              rw [this]
              omega
    · rw [lexF_err he] at h; cases h
theorem lexF_bad (s : ByteArray) : ∀ (f k n : Nat) (e a : Int), lexF s f k n = .bad e a → e ≠ 0
  | 0, k, n, e, a, h => by
    simp [lexF] at h
    omega
  | f + 1, k, n, e, a, h => by
    by_cases he : errK s k = 0
    · by_cases hn : n = 4000
      · subst hn; rw [lexF_many he] at h; injection h; omega
      · by_cases h0 : (tokK s k).kind = 0
        · rw [lexF_end he hn h0] at h; cases h
        · rw [lexF_next he hn h0] at h
          cases hr : lexF s f (endK s k) (n + 1) with
          | bad e' a' =>
            rw [hr] at h
            injection h with h1 h2
            have := lexF_bad s f (endK s k) (n + 1) e' a' hr
            omega
          | good l' => rw [hr] at h; cases h
    · rw [lexF_err he] at h
      injection h with h1 h2
      omega
theorem lexR_bad {s : ByteArray} {e a : Int} (h : lexR s = .bad e a) : e ≠ 0 := by
  unfold lexR at h
  split at h
  · injection h; omega
  · split at h
    · injection h; omega
    · exact lexF_bad s _ _ _ _ _ h
theorem lexR_good {s : ByteArray} {l : List Tok} (h : lexR s = .good l) : Good s 0 l ∧ s.size ≤ 16384 := by
  unfold lexR at h
  split at h
  · cases h
  · split at h
    · cases h
    · exact ⟨lexF_good s _ _ _ _ (by omega) h, by omega⟩
end Go.Proofs.YthlkjfkgdijfdaaGreatDoor
