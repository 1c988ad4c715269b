/- Contracts: edit.add; the closures of edit.Compose. -/
import Derived.Test.YtendbkbjmibchaaWC
import Derived.Lib.SlBytesRow
import Derived.Laws.BytesArg
namespace Go.Proofs.Ytendbkbjmibchaa
open Go.RowKit

set_option maxHeartbeats 1000000 in
theorem add_any (a b : Int) (w : World) (h0 : 0 ≤ a) (h1 : a ≤ 1000000000000000) (h2 : -1000000000000000000 ≤ b) (h3 : b ≤ 1000000000000000000) :
    Calls Try.prog 51 #[.int .i64 a, .int .i64 b] w fun r w' => r = .returned (.int .i64 (a + b)) ∧ Below w.heap.size w w' := by
  by_cases hb : 0 < b
  · have hd : decide (9223372036854775807 - b < a) = false := by simp; omega
    go_enter Try.func51, Try.ntmps51
    go_wp2_with fail
    go_ret
    exact ⟨ri (by omega), Below.refl _ _⟩
  · have hd : decide (0 < b) = false := by simp; omega
    go_enter Try.func51, Try.ntmps51
    go_wp2_with fail
    go_ret
    exact ⟨ri (by omega), Below.refl _ _⟩

/-- What Compose holds between two pieces: the edits so far, up to where the text has been told, what has been put in since. -/
structure CSt where
  o : List Ed
  d : Int
  u : ByteArray
def cup (s : CSt) (m : Int) : CSt := ⟨if s.d < m ∨ s.u.size ≠ 0 then s.o ++ [⟨s.d, m, s.u⟩] else s.o, s.d, ⟨#[]⟩⟩
def cstep (s : CSt) (p : Pc) : CSt := if p.x.size = 0 then ⟨(cup s p.f).o, p.t, ⟨#[]⟩⟩ else ⟨s.o, s.d, s.u ++ p.x⟩
def cst (ps : List Pc) : CSt := ps.foldl cstep ⟨[], 0, ⟨#[]⟩⟩
theorem cst_app (ps : List Pc) (p : Pc) : cst (ps ++ [p]) = cstep (cst ps) p := by unfold cst; simp
theorem fold_cmps (n : Int) : ∀ (ps : List Pc) (s : CSt), (cup (ps.foldl cstep s) n).o = s.o ++ cmps n ps s.d s.u
  | [], s => by
    rw [List.foldl_nil]
    unfold cmps cup
    by_cases h : s.d < n ∨ s.u.size ≠ 0
    · rw [if_pos h, if_pos h]
    · rw [if_neg h, if_neg h, List.append_nil]
  | p :: r, s => by
    rw [List.foldl_cons, fold_cmps n r]
    conv => rhs; rw [cmps]
    by_cases hx : p.x.size = 0
    · rw [if_pos hx]
      have : cstep s p = ⟨(cup s p.f).o, p.t, ⟨#[]⟩⟩ := by unfold cstep; rw [if_pos hx]
      rw [this]
      unfold cup
      simp only
      by_cases h : s.d < p.f ∨ s.u.size ≠ 0
      · rw [if_pos h, if_pos h, List.append_assoc]
      · rw [if_neg h, if_neg h, List.nil_append]
    · rw [if_neg hx]
      have : cstep s p = ⟨s.o, s.d, s.u ++ p.x⟩ := by unfold cstep; rw [if_neg hx]
      rw [this]
theorem cst_cmpd (a b : List Ed) (n : Int) : (cup (cst (both (pcs n 0 a) 0 b)) n).o = cmpd a b n := by
  unfold cst cmpd
  rw [fold_cmps]
  simp

/-- How many bytes the pieces put in. -/
def tb : List Pc → Nat
  | [] => 0
  | p :: r => p.x.size + tb r
theorem tb_app (a b : List Pc) : tb (a ++ b) = tb a + tb b := by
  induction a with
  | nil => simp [tb]
  | cons p r ih => simp [tb, ih]; omega
theorem cat_size (a b : ByteArray) : (a ++ b).size = a.size + b.size := by simp
theorem cst_small (ps : List Pc) : ∀ (s : CSt), (ps.foldl cstep s).u.size ≤ s.u.size + tb ps ∧ (ps.foldl cstep s).o.length ≤ s.o.length + ps.length := by
  induction ps with
  | nil => intro s; simp [tb]
  | cons p r ih =>
    intro s
    rw [List.foldl_cons]
    have := ih (cstep s p)
    have h1 : (cstep s p).u.size ≤ s.u.size + p.x.size ∧ (cstep s p).o.length ≤ s.o.length + 1 := by
      unfold cstep
      split
      · unfold cup
        simp only
        refine ⟨by show (0 : Nat) ≤ _; omega, ?_⟩
        split <;> simp
      · simp only [cat_size]; omega
    rw [tb, List.length_cons]
    omega

theorem conv_own {w : World} {base : Nat} {v : Value} {s : ByteArray} (h : w.ownsRow base 5 1 v s.size (Lib.strCells s)) : (convert 74 9 v).run Try.prog w = .ok (.string s) w := by
  rcases h.2 with ⟨rfl, hx⟩ | ⟨g, cap, cur, rfl, _⟩
  · have hs : s = ByteArray.empty := by
      have : s.data = #[] := Array.eq_empty_of_size_eq_zero hx
      cases s; simp_all
    rw [hs]
    exact run_convert_bytes_nil w 74 5 Try.underlying74 Try.underlying5 0 0 9 Try.underlying9
  · refine Lib.run_convert_whole w 74 5 9 Try.underlying74 Try.underlying5 Try.underlying9 g 0 s (fun i hi => ?_) cap
    have := h.cells (g := g) rfl i (.int .u8 (s[i].toNat : Int)) (by
      unfold Lib.strCells
      have hi' : i < s.data.size := hi
      rw [List.getElem?_map, Array.getElem?_toList, Array.getElem?_eq_getElem hi']
      rfl)
    have hadd : ∀ j, (⟨g, 0, none⟩ : Addr).add j = ⟨g, 0 + j, none⟩ := fun j => by unfold Addr.add; split <;> simp_all
    rw [hadd] at this
    exact this
theorem own_none {w : World} {base e sz n c : Nat} {A : Option Addr} {xs : List Value} (h : w.ownsRow base e sz (.slice A n c) n xs) : w.ownsRow base e sz (.slice A 0 c) 0 [] := by
  refine ⟨by simp, ?_⟩
  rcases h.2 with ⟨hv, hx⟩ | ⟨g, cap, cur, hv, hg, hh, hc, hm, hs, _⟩
  · injection hv with a1 a2 a3
    subst a1 a3
    exact .inl ⟨rfl, rfl⟩
  · injection hv with a1 a2 a3
    subst a1 a3
    exact .inr ⟨g, c, cur, rfl, hg, hh, by omega, hm, hs, by simp⟩
end Go.Proofs.Ytendbkbjmibchaa
