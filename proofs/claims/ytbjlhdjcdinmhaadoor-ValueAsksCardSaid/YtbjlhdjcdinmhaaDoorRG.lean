/- Contracts: names cloned (f66), names turned (f47). -/
import Derived.Test.YtbjlhdjcdinmhaaDoorRF
import Derived.Lib.AppendZeros
namespace Go.Proofs.YtbjlhdjcdinmhaaDoor
open Go.RowKit Go.Op
namespace Vm
/-- A row of one's own, cell by cell, or nothing. -/
def Row9 (w w' : World) (ns : List ByteArray) (v : Value) : Prop := (v = .slice none 0 0 ∧ ns = []) ∨ ∃ G cap cur, v = .slice (some ⟨G, 0, none⟩) ns.length cap ∧ w.heap.size ≤ G ∧ RowB w' G 9 cur ∧ ns.length ≤ cap ∧ ∀ (j : Nat) s, ns[j]? = some s → cur[j]? = some (Value.string s)
theorem row9_of {w w' : World} {ns : List ByteArray} {v : Value} (h : w'.ownsRow w.heap.size 9 1 v ns.length (ns.map Value.string)) (hn : ns ≠ []) : Row9 w w' ns v := by
  rcases h.2 with ⟨hv, h0⟩ | ⟨g, cap, cur, hv, hbg, hg, hnc, hcm, hcs, htake⟩
  · have := h.1
    simp at this
    exact absurd (List.eq_nil_of_length_eq_zero (by omega)) hn
  · refine .inr ⟨g, cap, cur, hv, hbg, hg, by omega, fun j s e => ?_⟩
    have hj := (List.getElem?_eq_some_iff.1 e).1
    have h1 : (cur.toList.take (ns.length * 1))[j]? = some (Value.string s) := by rw [htake]; simp [e]
    rw [List.getElem?_take, if_pos (by omega)] at h1
    rw [← Array.getElem?_toList]
    exact h1
set_option maxHeartbeats 4000000 in
set_option maxRecDepth 100000 in
theorem clone_names (w : World) (ns : List ByteArray) (P : Nat → Prop) (A : Option Addr) (c : Nat) (h : NV w P ns A c) (hl : ns.length ≤ 1000001) (hn0 : ns ≠ []) :
    Calls Tryd.prog 66 #[.slice A ns.length c] w fun e w' => ∃ v, e = .returned v ∧ Row9 w w' ns v ∧ Below w.heap.size w w' := by
  have q22 : ∀ (w : World) (a : Option Addr) (n c n' c' : Nat), (binOp .eql 22 (.slice a n c) (.slice none n' c')).run Tryd.prog w = .ok (.bool a.isNone) w := fun w a n c n' c' => Lib.run_eql_slice_nil w _ _ a n c n' c' Tryd.underlying22
  cases A with
  | none =>
    exfalso
    obtain ⟨g, o, e, _⟩ := h.2.2 (List.length_pos_iff.2 hn0)
    cases e
  | some ad =>
    have b1 := bel1 w (.cells #[] 9)
    have hown : (w.alloc (.cells #[] 9)).ownsRow w.heap.size 9 1 (.slice (some ⟨w.heap.size, 0, none⟩) 0 0) 0 [] := World.ownsRow_made w #[] 0 (Nat.le_refl _) (Nat.zero_le _) (by simp)
    obtain ⟨v', w1, hr, ho, hg⟩ := append_names (w := w.alloc (.cells #[] 9)) w.heap.size _ 0 [] hown (some ad) c ns (fun h0 => by
      obtain ⟨g, o, e, _, hlt, hc⟩ := h.2.2 h0
      exact ⟨g, o, e, fun j u hu => (b1.cell (p := ⟨g, o + j, none⟩) hlt).trans (hc j u hu)⟩) (by omega) b1.size
    have hb : Below w.heap.size w w1 := b1.grown hg b1.size (by intro k hk; simp [Value.ownBlock] at hk; omega)
    rw [Nat.zero_add, List.nil_append] at ho
    have HNV := Lib.hid (row9_of ho hn0)
    have HB := Lib.hid hb
    obtain ⟨n, hn⟩ : ∃ n, n = ns.length := ⟨_, rfl⟩
    rw [← hn] at hr ⊢
    clear h b1 hown ho hg hb hn hn0
    go_enter Tryd.func66, Tryd.ntmps66
    go_wp2_with (at_builtin; refine Lib.wpList_append_run _ rfl _ _ _ _ rfl _ _ rfl rfl _ _ hr ?_)
    (first | go_ret | go_ret2)
    exact ⟨_, rfl, HNV.out, HB.out⟩
theorem clone_nil (w : World) (A : Option Addr) (c : Nat) : Calls Tryd.prog 66 #[.slice A 0 c] w fun e w' => ∃ A' c', e = .returned (.slice A' 0 c') ∧ Below w.heap.size w w' := by
  have q22 : ∀ (w : World) (a : Option Addr) (n c n' c' : Nat), (binOp .eql 22 (.slice a n c) (.slice none n' c')).run Tryd.prog w = .ok (.bool a.isNone) w := fun w a n c n' c' => Lib.run_eql_slice_nil w _ _ a n c n' c' Tryd.underlying22
  cases A with
  | none =>
    go_enter Tryd.func66, Tryd.ntmps66
    go_wp2_with fail
    (first | go_ret | go_ret2)
    exact ⟨_, _, rfl, Below.refl _ _⟩
  | some ad =>
    have HB := Lib.hid (bel1 w (.cells #[] 9))
    go_enter Tryd.func66, Tryd.ntmps66
    go_wp2_with fail
    (first | go_ret | go_ret2)
    exact ⟨_, _, rfl, HB.out⟩
set_option maxHeartbeats 4000000 in
set_option maxRecDepth 100000 in
theorem renamed_any (w : World) (ns : List ByteArray) (f t : ByteArray) (ht : t.size ≤ 140737488351232) (P : Nat → Prop) (A : Option Addr) (c : Nat) (h : NV w P ns A c) (hl : ns.length ≤ 1000001) :
    Calls Tryd.prog 47 #[.slice A ns.length c, .string f, .string t] w fun e w' => ∃ A' c', e = .returned (.slice A' ns.length c') ∧ NV w' (fun g => w.heap.size ≤ g) (ns.map (ren f t)) A' c' ∧ Below w.heap.size w w' := by
  by_cases hn0 : ns = []
  · subst hn0
    have C := Lib.hid (clone_nil w A c)
    simp only [List.length_nil, List.map_nil]
    clear h
    go_enter Tryd.func47, Tryd.ntmps47
    go_wp2_with fail
    refine C.out.mono ?_
    rintro e w2 ⟨A', c', rfl, h2⟩
    have HB := Lib.hid h2
    clear h2 C
    go_wp2_with fail
    go_loopg [14] 1 (fun kx s14 wr => s14 = .int .i64 0 ∧ 1 - 0 ≤ kx + 1 ∧ Hid (w2 = wr))
    case atStart => exact ⟨rfl, by omega, rfl⟩
    case round =>
      obtain ⟨rfl, _, HW⟩ := hrel
      obtain rfl := HW.out
      go_wp2_with fail
      (first | go_ret | go_ret2)
      exact ⟨_, _, rfl, NV.nil _ _ _ _, HB.out⟩
  have C := Lib.hid (clone_names w ns P A c h hl hn0)
  have HNV : Hid (NV w (fun g => P g ∧ g < w.heap.size) ns A c) := h.low
  obtain ⟨n, hn⟩ : ∃ n, n = ns.length := ⟨_, rfl⟩
  rw [← hn] at C ⊢
  have HN := Lib.hid hn
  have HT := Lib.hid ht
  have H0 := Lib.hid hn0
  have hn1 : n ≤ 1000001 := by omega
  clear hn ht h hl hn0
  go_enter Tryd.func47, Tryd.ntmps47
  go_wp2_with fail
  refine C.out.mono ?_
  rintro e w2 ⟨v, rfl, hr, h2⟩
  have hr' : ∃ G cap cur, v = .slice (some ⟨G, 0, none⟩) n cap ∧ w.heap.size ≤ G ∧ RowB w2 G 9 cur ∧ n ≤ cap ∧ ∀ (j : Nat) s, ns[j]? = some s → cur[j]? = some (Value.string s) := by
    rcases hr with ⟨_, h⟩ | h
    · exact absurd h H0.out
    · rw [HN.out]; exact h
  obtain ⟨G, cap, cur, rfl, hG, hrow, hcap, hcur⟩ := hr'
  have HB := Lib.hid h2
  have HROW := Lib.hid hrow
  have HCUR := Lib.hid hcur
  have HG := Lib.hid hG
  have HCAP := Lib.hid hcap
  clear hr hrow hcur h2 C hG hcap
  go_wp2_with fail
  go_loopg [14] (n + 1) (fun kx s14 wr => ∃ i : Nat, s14 = .int .i64 i ∧ n - i ≤ kx ∧ i ≤ n ∧ Hid (Below w.heap.size w wr) ∧ Hid (∃ cur, RowB wr G 9 cur ∧ ∀ (j : Nat) s, ns[j]? = some s → cur[j]? = some (Value.string (if j < i then ren f t s else s))))
  case atStart => exact ⟨0, rfl, by omega, by omega, HB.out, cur, HROW.out, fun j s e => by rw [if_neg (by omega)]; exact HCUR.out j s e⟩
  case round =>
    obtain ⟨i, rfl, hkx, hin, HBr, HRr⟩ := hrel
    obtain ⟨cu, hrow, hcu⟩ := HRr.out
    by_cases hi : i < n
    · have hil : (i : Int) < (n : Int) := by omega
      obtain ⟨s, e⟩ := get_lt (l := ns) (i := i) (by rw [← HN.out]; exact hi)
      obtain ⟨g0, o0, hA0, hP0, hg0, y, hsx⟩ := (HNV.out.below HBr.out).nth e
      have hcap := HCAP.out
      have im : (i : Int) < (cap : Int) := by omega
      have hci := hcu i s e
      rw [if_neg (by omega)] at hci
      have HCU := Lib.hid hcu
      have HE := Lib.hid e
      obtain ⟨bb, hbb⟩ : ∃ bb, bb = decide (s = f) := ⟨_, rfl⟩
      have hxe : (s.toList == f.toList) = bb := by rw [beq_ba, hbb]
      have HBB := Lib.hid hbb
      obtain ⟨j, hj⟩ : ∃ j, j = i + 1 := ⟨_, rfl⟩
      have HROWr := Lib.hid hrow
      have z := (hrow.cell i).trans hci
      have zt := hrow.thaw i
      subst hA0
      cases bb with
      | true =>
        have HN1 : Hid (∃ cur, RowB (wr.setCell ⟨G, i, none⟩ (.string t)) G 9 cur ∧ ∀ (k : Nat) s, ns[k]? = some s → cur[k]? = some (Value.string (if k < j then ren f t s else s))) := ⟨_, hrow.put i _, fun k s' e' => by
          have hk := hcu k s' e'
          have hks := (Array.getElem?_eq_some_iff.1 hci).1
          rw [Array.getElem?_setIfInBounds]
          by_cases hki : i = k
          · subst hki
            rw [if_pos rfl, if_pos hks, if_pos (by omega)]
            have : s' = s := by rw [HE.out] at e'; injection e' with e'; exact e'.symm
            rw [this, ren, if_pos (of_decide_eq_true HBB.out.symm)]
          · rw [if_neg hki, hk]
            by_cases h1 : k < i
            · rw [if_pos h1, if_pos (by omega)]
            · rw [if_neg h1, if_neg (by omega)]⟩
        have HB1 : Hid (Below w.heap.size w (wr.setCell ⟨G, i, none⟩ (.string t))) := HBr.out.setCell (p := ⟨G, i, none⟩) HG.out _
        clear hcu hci hbb hrow HRr HCU e
        go_wp2_with fail
        go_roundg (n - j)
        case measure => omega
        case rel => exact ⟨j, by rw [hj]; go_num, by omega, by omega, HB1.out, HN1.out⟩
      | false =>
        have HN1 : Hid (∃ cur, RowB wr G 9 cur ∧ ∀ (k : Nat) s, ns[k]? = some s → cur[k]? = some (Value.string (if k < j then ren f t s else s))) := ⟨_, hrow, fun k s' e' => by
          have hk := hcu k s' e'
          rw [hk]
          by_cases hki : i = k
          · subst hki
            rw [if_neg (by omega), if_pos (by omega)]
            have : s' = s := by rw [HE.out] at e'; injection e' with e'; exact e'.symm
            rw [this, ren, if_neg (of_decide_eq_false HBB.out.symm)]
          · by_cases h1 : k < i
            · rw [if_pos h1, if_pos (by omega)]
            · rw [if_neg h1, if_neg (by omega)]⟩
        clear hcu hci hbb hrow HRr HCU e z zt
        go_wp2_with fail
        go_roundg (n - j)
        case measure => omega
        case rel => exact ⟨j, by rw [hj]; go_num, by omega, by omega, HBr.out, HN1.out⟩
    · have hil : ¬ (i : Int) < (n : Int) := by omega
      obtain rfl : n = i := by omega
      have HF : Hid (NV wr (fun g => w.heap.size ≤ g) (ns.map (ren f t)) (some ⟨G, 0, none⟩) cap) := by
        refine ⟨by rw [List.length_map, ← HN.out]; exact HCAP.out, fun s hs => ?_, fun _ => ⟨G, 0, rfl, HG.out, hrow.lt, fun k s e => ?_⟩⟩
        · obtain ⟨x, hx, rfl⟩ := List.mem_map.1 hs
          unfold ren
          split
          · exact HT.out
          · exact HNV.out.2.1 x hx
        · rw [List.getElem?_map] at e
          cases ex : ns[k]? with
          | none => rw [ex] at e; cases e
          | some x =>
            rw [ex] at e
            injection e with e
            have hk := (List.getElem?_eq_some_iff.1 ex).1
            rw [Nat.zero_add, hrow.cell, hcu k x ex, if_pos (by rw [HN.out]; exact hk), e]
      clear hrow hcu HRr hi
      go_wp2_with fail
      (first | go_ret | go_ret2)
      exact ⟨_, _, rfl, HF.out, HBr.out⟩
end Vm
end Go.Proofs.YtbjlhdjcdinmhaaDoor
