/- Contracts: the laws' own helpers on edits: light, awake. -/
import Derived.Test.YtendbkbjmibchaaApply
namespace Go.Proofs.Ytendbkbjmibchaa
open Go.RowKit

/-- How long the texts of edits are, all in all. -/
def tot : List Ed → Nat
  | [] => 0
  | e :: r => e.x.size + tot r
theorem tot_drop (es : List Ed) (k : Nat) (hk : k < es.length) : tot (es.drop k) = es[k].x.size + tot (es.drop (k + 1)) := by
  rw [List.drop_eq_getElem_cons hk, tot]
/-- Are edits light, beside a text of n bytes? -/
def lightB (n : Nat) (es : List Ed) : Bool := (es.isEmpty || decide (n + tot es ≤ 3000)) && decide (es.length ≤ 600)

set_option maxHeartbeats 2000000 in
set_option maxRecDepth 100000 in
theorem light_any (s : ByteArray) (A : Option Addr) (cap : Nat) (es : List Ed) (w : World) (hes : Eds w w.heap.size A es) (hlm : es.length ≤ 9223372036854775807) (hm : s.size ≤ 1000000000000000) (hx : ∀ e ∈ es, e.x.size ≤ 1000000000000000) :
    Calls Try.prog 31 #[.string s, .slice A es.length cap] w fun e w' => e = .returned (.bool (lightB s.size es)) ∧ Below w.heap.size w w' := by
  have HES := Lib.hid hes
  have HX := Lib.hid hx
  clear hes hx
  go_enter Try.func31, Try.ntmps31
  go_wp2_with fail
  go_loopw [5, 7, 12] (fun nv _ i wr => ∃ k : Nat, ∃ m : Nat, k ≤ es.length ∧ i = .int .i64 k ∧ nv = .int .i64 m ∧ m + tot (es.drop k) = s.size + tot es ∧ (0 < k → m ≤ 3000) ∧ m ≤ 1000000000000000 ∧ Below w.heap.size w wr) (fun _ _ i _ => es.length - (intOf i).toNat)
  case atStart => exact ⟨0, s.size, by omega, rfl, rfl, rfl, by omega, hm, Below.refl _ _⟩
  case round =>
    obtain ⟨k, m, hk, rfl, rfl, ht, h3, hmm, hb⟩ := hrel
    have HT := Lib.hid ht
    have HB := Lib.hid hb
    have H3 := Lib.hid h3
    clear ht hb h3
    by_cases hlt : k < es.length
    · obtain ⟨bb, off, rfl, hbl, hcell⟩ := (HES.out.below HB.out) (by omega)
      obtain ⟨q0, q1, q2⟩ := hcell k hlt
      have hbw : bb < wr.heap.size := Nat.lt_of_lt_of_le hbl HB.out.size
      have hxs := HX.out es[k] (List.getElem_mem hlt)
      have HD := Lib.hid (tot_drop es k hlt)
      have HB' := Lib.hid (HB.out.alloc HB.out.size (.cells #[.int .i64 es[k].f, .int .i64 es[k].t, .string es[k].x] 68))
      clear hcell
      by_cases hbig : 3000 < m + es[k].x.size
      · have R : Hid (lightB s.size es = false) := by
          unfold Hid lightB
          have h1 := HT.out
          rw [HD.out] at h1
          have h2 : es.isEmpty = false := by cases es <;> simp at hlt ⊢
          rw [h2, Bool.false_or, decide_eq_false (by omega), Bool.false_and]
        have hbig' : (3000 : Int) < (m : Int) + (es[k].x.size : Int) := by omega
        clear hbig
        go_wp2_with fail
        go_ret
        exact ⟨by rw [R.out]; rfl, HB'.out⟩
      · have hsm' : (m : Int) + (es[k].x.size : Int) ≤ 3000 := by omega
        clear hbig
        go_wp2_with fail
        go_roundw
        case rel => exact ⟨k + 1, m + es[k].x.size, by omega, by go_num, by go_num, by have := HT.out; rw [HD.out] at this; omega, by omega, by omega, HB'.out⟩
        case measure => simp [intOf]; omega
    · obtain rfl : k = es.length := by omega
      have R : Hid (lightB s.size es = decide (es.length ≤ 600)) := by
        unfold Hid lightB
        have h1 := HT.out
        rw [List.drop_length, tot] at h1
        cases hh : es with
        | nil => simp
        | cons e r =>
          have := H3.out (by rw [hh]; simp)
          rw [← hh, decide_eq_true (by omega : s.size + tot es ≤ 3000), Bool.or_true, Bool.true_and]
      go_wp2_with fail
      all_goals
        go_ret
        exact ⟨rb (by rw [R.out]; simp; omega), HB.out⟩

def exs : ByteArray := ⟨#[97, 98, 99]⟩
def exe : List Ed := [⟨1, 2, ⟨#[120, 121]⟩⟩]

set_option maxHeartbeats 1000000 in
theorem awake_edit (w : World) : Calls Try.prog 32 #[] w fun e w' => e = .returned (.bool true) ∧ Below w.heap.size w w' := by
  go_enter Try.func32, Try.ntmps32
  go_wp2_with fail
  refine (apply_ok exs (some ⟨w.heap.size, 0, none⟩) 1 exe _ ?_ (by decide) (by decide) (by decide)).mono ?_
  · intro _
    refine ⟨w.heap.size, 0, rfl, by simp, fun i hi => ?_⟩
    have : i = 0 := by simp [exe] at hi; exact hi
    subst this
    exact ⟨by simp [go_sem, exe], by simp [go_sem, exe], by simp [go_sem, exe]⟩
  rintro e w1 ⟨rfl, hb⟩
  rw [show (⟨(apd exs exe).toArray⟩ : ByteArray) = ⟨#[97, 120, 121, 99]⟩ by decide]
  have HB := Lib.hid (below_alloc' hb)
  clear hb
  go_wp2
  go_ret
  exact ⟨rfl, HB.out⟩
end Go.Proofs.Ytendbkbjmibchaa
