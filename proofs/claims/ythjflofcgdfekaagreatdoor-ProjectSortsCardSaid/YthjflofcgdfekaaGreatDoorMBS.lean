import Derived.Test.YthjflofcgdfekaaGreatDoorMBR
import Derived.Test.YthjflofcgdfekaaGreatDoorMBQ
import Derived.Test.YthjflofcgdfekaaGreatDoorMBO
import Derived.Test.YthjflofcgdfekaaGreatDoorMAU
import Derived.Test.YthjflofcgdfekaaGreatDoorMAS
import Derived.Laws.StructEq
import Derived.Lib.QuietBelow
import Derived.BigQuiet
import Derived.Test.YthjflofcgdfekaaGreatDoorMBN
import Derived.Test.YthjflofcgdfekaaGreatDoorMAT
namespace Go.Proofs.YthjflofcgdfekaaGreatDoor
open Go.RowKit Go.Sort Go.Proofs Go.Shelf Go.Op
namespace Su
open Od Og Ot Pj Sc
open Sb (RowAt)
theorem info52 : (Tryz.prog.info? 52).map (fun i => (i.zero, i.size, i.bytes)) = some (some (.agg #[.string ⟨#[]⟩, .string ⟨#[]⟩, .slice none 0 0, .int .i64 0, .int .i64 0, .int .i64 0, .string ⟨#[]⟩, .int .i64 0, .slice none 0 0, .slice none 0 0, .slice none 0 0, .slice none 0 0, .int .i64 0, .int .i64 0]), 14, 216) := by kernel_rfl
set_option maxHeartbeats 4000000 in
set_option maxRecDepth 100000 in
theorem cloneU_any (A : Option Addr) (cap : Nat) (l : List Un) (w : World) (hes : RowV w unC 14 A l) (hl : l.length ≤ 100000) :
    Calls Tryz.prog 72 #[.slice A l.length cap] w fun e w' => ∃ v', e = .returned v' ∧ w'.ownsRow w.heap.size 52 14 v' l.length (l.flatMap unC) ∧ Below w.heap.size w w' := by
  obtain ⟨i0, hi, hz0, hz1, hz2⟩ := info_parts info52
  have q22 : ∀ (w : World) (a : Option Addr) (n c n' c' : Nat), (binOp .eql 85 (.slice a n c) (.slice none n' c')).run Tryz.prog w = .ok (.bool a.isNone) w := fun w a n c n' c' => Lib.run_eql_slice_nil w _ _ a n c n' c' Tryz.underlying85
  cases A with
  | none =>
    have h0 : l = [] := by
      cases l with
      | nil => rfl
      | cons e r => obtain ⟨b, off, h, _⟩ := hes (by simp); cases h
    subst h0
    go_enter Tryz.func72, Tryz.ntmps72
    go_wp2
    go_ret
    exact ⟨_, rfl, ⟨rfl, .inl ⟨rfl, rfl⟩⟩, Below.refl _ _⟩
  | some ad =>
    have HC := Lib.hid (hes.flat unC_len)
    clear hes
    go_enter Tryz.func72, Tryz.ntmps72
    go_wp2_with (at_builtin; refine wpList_append_own _ rfl _ _ 85 rfl w.heap.size 52 i0 _ 14 216 Tryz.underlying85 hi hz0 hz1 hz2 rfl (by omega) _ _ _ rfl (World.ownsRow_made w #[] 0 (Nat.le_refl _) (Nat.zero_le _) (by simp)) ad l.length cap (l.flatMap unC) rfl ?qc1 ?qc2 ?qc3 ?qc4 ?qc5 ?qc6 ?_)
    case qc1 => exact flat_any unC_len l
    case qc2 =>
      intro j u hj
      exact Lib.cell?_alloc_some _ (HC.out j u hj)
    case qc3 =>
      intro u hu
      obtain ⟨x, _, hx⟩ := List.mem_flatMap.1 hu
      simp [unC] at hx
      rcases hx with rfl | rfl | rfl | rfl | rfl | rfl | rfl | rfl | rfl | rfl | rfl | rfl | rfl | rfl <;> rfl
    case qc4 => unfold maxLen; omega
    case qc5 => omega
    case qc6 => simp
    intro v' w1 hown hgrow hnil
    have HO := Lib.hid hown
    have HB : Hid (Below w.heap.size w w1) := ((Below.refl _ w).alloc (Nat.le_refl _) _).grown hgrow (by simp) (by intro k hk; simp [Value.ownBlock] at hk; omega)
    clear hown hgrow hnil
    go_wp2
    go_ret
    exact ⟨v', rfl, by simpa using HO.out, HB.out⟩
theorem swk_fr {w0 W : World} {blk off : Nat} {dk : Array (Un × Nat)} (S : SWK encU 14 w0 blk off dk W) : W.os = w0.os ∧ W.tape = w0.tape ∧ W.output = w0.output ∧ w0.heap.size ≤ W.heap.size ∧ ∀ k, k < w0.heap.size → k ≠ blk → W.heap[k]? = w0.heap[k]? := by
  obtain ⟨n, os, rfl⟩ := S
  refine ⟨rfl, rfl, rfl, ?_, fun k hk hn => ?_⟩
  · unfold sortWorldK; rw [size_grow, size_putRowK]; show w0.heap.size ≤ w0.heap.size + _; omega
  · unfold sortWorldK putRowK putRow mapBlock Go.Sort.grow Go.Sort.ahead
    have h1 : k < (w0.heap.modify blk (onCells (putCells id off (flatK encU 14 dk)))).size := by simp; omega
    simp only [Array.getElem?_append, h1, if_true, Array.getElem?_modify]
    rw [if_neg (by omega)]
set_option maxHeartbeats 4000000 in
set_option maxRecDepth 100000 in
theorem stableU (g c : Nat) (l : List Un) (w : World) (hH : HoldsK encU 14 w g 0 (tagG 0 l).toArray) (hg : g < w.heap.size) (hl : l.length ≤ 8) :
    Calls Tryz.prog 114 #[.slice (some ⟨g, 0, none⟩) l.length c, .int .i64 l.length, .func (.func 74) #[] #[]] w fun e w' => e = .returned (.tuple #[]) ∧ ∃ n os, w' = sortWorldK encU 14 w g 0 n (insertionSort (ltOf (cfG cu)) (tagG 0 l).toArray 0 l.length) os := by
  have e0 : (tagG 0 l).toArray.size = l.length := by simp [tagG_len]
  have cc := AnyQ.insertionSortCmpFunc ins20 14 Tryz.isAgg52 Tryz.sizeOf52 encU encU_len encU_one (cfG cu) 74 #[] g 0 c 0 l.length (tagG 0 l).toArray w enter74 (cmpLaysU g 0 _ w) hH hg (Nat.zero_le _) (by rw [e0]; exact Nat.le_refl _) (by rw [e0]; omega)
  rw [e0] at cc
  change Calls Tryz.prog 149 _ _ _ at cc
  have C := Lib.hid cc
  obtain ⟨nn, hnn⟩ : ∃ nn, nn = l.length := ⟨_, rfl⟩
  have HNN := Lib.hid hnn
  rw [← hnn] at C hl ⊢
  have q1 : decide ((20 : Int) ≤ (nn : Int)) = false := decide_eq_false (by omega)
  have q2 : decide ((20 : Int) < (nn : Int)) = false := decide_eq_false (by omega)
  clear cc e0 hH hg hnn
  go_enter Tryz.func114, Tryz.ntmps114
  go_wp2_with fail
  refine wp_loop_rounds 1 ?_
  rw [rounds_succ]
  go_wp2_with (go_at_call 149; refine C.out.mono ?_; rintro e w2 ⟨rfl, hw2⟩)
  refine wp_loop_rounds 1 ?_
  rw [rounds_succ]
  go_wp2
  go_end0
  exact ⟨rfl, hw2⟩
set_option maxHeartbeats 4000000 in
set_option maxRecDepth 100000 in
theorem stable_none (A : Option Addr) (cap : Nat) (fv : Value) (w : World) : Calls Tryz.prog 114 #[.slice A 0 cap, .int .i64 0, fv] w fun e w' => e = .returned (.tuple #[]) ∧ w' = w := by
  have h68 : ∀ w, Calls Tryz.prog 149 #[.slice A 0 cap, .int .i64 0, .int .i64 0, fv] w fun e w' => e = .returned (.tuple #[]) ∧ w' = w := fun w => by
    go_enter Tryz.func149, Tryz.ntmps149
    go_wp2_with fail
    refine wp_loop_rounds 1 ?_
    rw [rounds_succ]
    go_wp2
    go_end0
    exact ⟨rfl, rfl⟩
  go_enter Tryz.func114, Tryz.ntmps114
  go_wp2_with fail
  refine wp_loop_rounds 1 ?_
  rw [rounds_succ]
  go_wp2_with (go_at_call 149; refine (h68 _).mono ?_; rintro e w' ⟨rfl, rfl⟩)
  refine wp_loop_rounds 1 ?_
  rw [rounds_succ]
  go_wp2
  go_end0
  exact ⟨rfl, rfl⟩
set_option maxHeartbeats 4000000 in
set_option maxRecDepth 100000 in
theorem sortU_any {w : World} {B n c : Nat} {A : Option Addr} {l : List Un} (h : w.ownsRow B 52 14 (.slice A n c) n (l.flatMap unC)) (hn : n = l.length) (hl : l.length ≤ 8) :
    Calls Tryz.prog 73 #[.slice A n c, .func (.func 74) #[] #[]] w fun e w' => e = .returned (.tuple #[]) ∧ (∃ l', StG cu l l' ∧ RowAt w' B w'.heap.size unC 14 A l') ∧ w'.os = w.os ∧ w'.tape = w.tape ∧ w'.output = w.output ∧ w.heap.size ≤ w'.heap.size ∧ ∀ k, k < w.heap.size → (Value.slice A n c).ownBlock ≠ some k → w'.heap[k]? = w.heap[k]? := by
  subst hn
  by_cases h0 : l = []
  · subst h0
    simp only [List.length_nil]
    go_enter Tryz.func73, Tryz.ntmps73
    go_wp2_with (go_at_call 114; refine (stable_none _ _ _ _).mono ?_; rintro e w' ⟨rfl, rfl⟩)
    go_end0
    exact ⟨rfl, ⟨[], .nil, fun h => by simp at h⟩, rfl, rfl, rfl, Nat.le_refl _, fun _ _ _ => rfl⟩
  · have hlen : 0 < l.length := List.length_pos_iff.2 h0
    obtain ⟨x, hx⟩ : ∃ x, l[0]? = some x := ⟨l[0], List.getElem?_eq_getElem hlen⟩
    obtain ⟨g, c', e1, hc1, hg, hob, _⟩ := row_get h (fun _ => unC_len _) hx rfl
    rw [hob]
    injection e1 with e1 _ e3
    subst e1 e3
    have HLO : Hid (B ≤ g) := (h.lt g hob).1
    have hH := own_holds h
    have HH := Lib.hid hH
    have HG := Lib.hid hg
    have e0 : (tagG 0 l).toArray.size = l.length := by simp [tagG_len]
    have E0 := Lib.hid e0
    have C := Lib.hid (stableU g c l w hH hg hl)
    obtain ⟨nn, hnn⟩ : ∃ nn, nn = l.length := ⟨_, rfl⟩
    have HNN := Lib.hid hnn
    rw [← hnn] at C ⊢
    clear hH h hx e0 hlen hc1 hnn hob hl hg
    go_enter Tryz.func73, Tryz.ntmps73
    go_wp2_with fail
    refine C.out.mono ?_
    rintro e w2 ⟨rfl, hw2⟩
    have W2 := Lib.hid hw2
    clear hw2 C
    go_wp2_with fail
    go_end0
    obtain ⟨k, os, hw⟩ := W2.out
    obtain ⟨d', hd⟩ : ∃ d', d' = insertionSort (ltOf (cfG cu)) (tagG 0 l).toArray 0 nn := ⟨_, rfl⟩
    have hst := ins_st ordU l
    have hsz : d'.size = (tagG 0 l).toArray.size := by
      have := (insertionSort_holds (swocf ordU) (tagG 0 l).toArray 0 l.length (Nat.zero_le _) (by rw [E0.out]; exact Nat.le_refl _)).1.1
      rw [hd, HNN.out]
      exact this
    rw [← HNN.out, ← hd] at hst
    rw [← hd] at hw
    have S : SWK encU 14 w g 0 d' w2 := ⟨k, os, hw⟩
    have hold := S.holds HG.out HH.out hsz
    refine ⟨rfl, ⟨_, hst, fun _ => ⟨g, rfl, HLO.out, S.lt HG.out, fun i y hy j u hj => ?_⟩⟩, ?_⟩
    · have hi : i < d'.size := by
        have := (List.getElem?_eq_some_iff.1 hy).1
        simpa using this
      have e : y = (d'[i]!).1 := by
        rw [getElem!_pos d' i hi]
        rw [List.getElem?_map, List.getElem?_eq_getElem (by simpa using hi)] at hy
        simpa using hy.symm
      subst e
      have hj14 : j < 14 := by have := (List.getElem?_eq_some_iff.1 hj).1; rw [unC_len] at this; exact this
      have hc := (hold.cell hi hj14).1
      rw [Nat.zero_add] at hc
      rw [hc]
      congr 1
      unfold encU
      obtain ⟨h1, h2⟩ := List.getElem?_eq_some_iff.1 hj
      rw [getElem!_pos (unC (d'[i]!).1) j h1]
      exact h2
    · obtain ⟨a1, a2, a3, a4, a5⟩ := swk_fr S
      exact ⟨a1, a2, a3, a4, fun k hk hne => a5 k hk (fun e => hne (by rw [e]))⟩
end Su
end Go.Proofs.YthjflofcgdfekaaGreatDoor

namespace Go.Proofs.YthjflofcgdfekaaGreatDoor
open Go.RowKit Go.Op
set_option maxHeartbeats 2000000 in
theorem name_any (s : ByteArray) (hs : s.size ≤ 100000) (w : World) : Calls Tryz.prog 75 #[.string s] w fun e w' => e = .returned (.bool (nameL s.data.toList)) ∧ w = w' := by
  obtain ⟨N, hN⟩ : ∃ N, N = nameL s.data.toList := ⟨_, rfl⟩
  rw [← hN]
  unfold nameL at hN
  by_cases h0 : 0 < s.size
  · have hne : s.data.toList ≠ [] := by
      intro e
      have := len_list s
      rw [e] at this
      simp at this
      omega
    have hq : (s.toList != []) = true := by rw [ByteArray.toList_eq]; simpa using hne
    have hq2 : s.toList.isEmpty = false := by rw [ByteArray.toList_eq]; simpa using hne
    rw [decide_eq_true hne, head_of s h0, len_list, Bool.true_and] at hN
    have c1 := letter_any (s[0]'h0).toNat w
    cases h1 : letN (s[0]'h0).toNat
    · rw [h1] at c1 hN
      have HN := Lib.hid hN
      have C1 := Lib.hid c1
      clear c1 hN h1 hne
      go_enter Tryz.func75, Tryz.ntmps75
      go_wp2_with fail
      refine C1.out.mono ?_
      rintro e w1 ⟨rfl, rfl⟩
      go_wp2_with fail
      go_ret
      exact ⟨rb (by rw [HN.out]; simp), rfl⟩
    · rw [h1, Bool.true_and] at hN
      rw [h1] at c1
      have c2 := wlen_any s hs w
      obtain ⟨n, hn⟩ : ∃ n, n = wLen s.data.toList := ⟨_, rfl⟩
      rw [← hn] at c2 hN
      by_cases h2 : n = s.size
      · have q2 : ((n : Int) == (s.size : Int)) = true := by simp; omega
        rw [decide_eq_true h2, Bool.true_and] at hN
        by_cases h3 : s.size ≤ 40
        · have q3 : (s.size : Int) ≤ 40 := by omega
          rw [decide_eq_true h3, Bool.true_and] at hN
          have c3 := key_any s w
          have HN := Lib.hid hN
          have C1 := Lib.hid c1
          have C2 := Lib.hid c2
          have C3 := Lib.hid c3
          clear c1 c2 c3 hN h1 hne hn h2
          go_enter Tryz.func75, Tryz.ntmps75
          go_wp2_with fail
          refine C1.out.mono ?_
          rintro e w1 ⟨rfl, rfl⟩
          go_wp2_with fail
          refine C2.out.mono ?_
          rintro e w1 ⟨rfl, rfl⟩
          go_wp2_with fail
          refine C3.out.mono ?_
          rintro e w1 ⟨rfl, rfl⟩
          go_wp2_with fail
          go_ret
          exact ⟨rb (by rw [HN.out]), rfl⟩
        · have q3 : ¬ (s.size : Int) ≤ 40 := by omega
          rw [decide_eq_false h3, Bool.false_and] at hN
          have HN := Lib.hid hN
          have C1 := Lib.hid c1
          have C2 := Lib.hid c2
          clear c1 c2 hN h1 hne hn h2
          go_enter Tryz.func75, Tryz.ntmps75
          go_wp2_with fail
          refine C1.out.mono ?_
          rintro e w1 ⟨rfl, rfl⟩
          go_wp2_with fail
          refine C2.out.mono ?_
          rintro e w1 ⟨rfl, rfl⟩
          go_wp2_with fail
          go_ret
          exact ⟨rb (by rw [HN.out]), rfl⟩
      · have q2 : ((n : Int) == (s.size : Int)) = false := by simp; omega
        rw [decide_eq_false h2] at hN
        simp only [Bool.false_and] at hN
        have HN := Lib.hid hN
        have C1 := Lib.hid c1
        have C2 := Lib.hid c2
        clear c1 c2 hN h1 hne hn h2
        go_enter Tryz.func75, Tryz.ntmps75
        go_wp2_with fail
        refine C1.out.mono ?_
        rintro e w1 ⟨rfl, rfl⟩
        go_wp2_with fail
        refine C2.out.mono ?_
        rintro e w1 ⟨rfl, rfl⟩
        go_wp2_with fail
        go_ret
        exact ⟨rb (by rw [HN.out]), rfl⟩
  · have hl : s.data.toList = [] := List.eq_nil_of_length_eq_zero (by rw [len_list]; omega)
    have hq : s.toList = [] := by rw [ByteArray.toList_eq]; exact hl
    have hq2 : s.toList.isEmpty = true := by rw [hq]; rfl
    rw [hl] at hN
    have HN := Lib.hid hN
    clear hl hN h0
    go_enter Tryz.func75, Tryz.ntmps75
    go_wp2_with fail
    go_ret
    exact ⟨rb (by rw [HN.out]; simp), rfl⟩
theorem isname_any (s : ByteArray) (hs : s.size ≤ 100000) (w : World) : Calls Tryz.prog 75 #[.string s] w fun e w' => e = .returned (.bool (rnameL s.data.toList)) ∧ w = w' := by
  rw [← name_same]
  exact name_any s hs w
end Go.Proofs.YthjflofcgdfekaaGreatDoor
namespace Go.Proofs.YthjflofcgdfekaaGreatDoor
open Go.RowKit Go.Op
namespace Pj
open Sc Od Og Su
open Sb (RowAt)
def chk : Option ByteArray → List Un → Int
  | _, [] => 0
  | p, u :: r => if rnameL u.n.data.toList = false then 1 else if p = some u.n then 4 else chk (some u.n) r
def ahd (l : List Un) (i : Nat) : Option ByteArray := if i = 0 then none else (l[i - 1]?).map Un.n
theorem chk_step {l : List Un} {i : Nat} {x : Un} (hx : l[i]? = some x) : chk (ahd l i) (l.drop i) = if rnameL x.n.data.toList = false then 1 else if ahd l i = some x.n then 4 else chk (ahd l (i + 1)) (l.drop (i + 1)) := by
  obtain ⟨hi, hxe⟩ := List.getElem?_eq_some_iff.1 hx
  rw [List.drop_eq_getElem_cons hi, hxe, chk]
  have : ahd l (i + 1) = some x.n := by unfold ahd; rw [if_neg (by omega), show i + 1 - 1 = i from rfl, hx]; rfl
  rw [this]
structure PV (w : World) (lo : Nat) (p : Nat) (us : List Un) : Prop where
  ex : ∃ A c, RowB w p 125 #[.slice A us.length c] ∧ RowAt w lo w.heap.size unC 14 A us
  plo : lo ≤ p
  ok : ∀ u ∈ us, UOk lo w u
theorem PV.below {w w' : World} {lo p : Nat} {us : List Un} (h : PV w lo p us) (hb : Below w.heap.size w w') : PV w' lo p us := by
  obtain ⟨⟨A, c, h1, h2⟩, h3, h4⟩ := h
  exact ⟨⟨A, c, h1.below hb h1.lt, row_up h2 (Nat.le_refl _) hb⟩, h3, fun u hu => (h4 u hu).below hb⟩
def PrQ (w : World) (l : List Un) (e : Ending) (w' : World) : Prop :=
  Below w.heap.size w w' ∧ ((8 < l.length ∧ e = .returned (.tuple #[.pointer none, .int .i64 5])) ∨
    ∃ l', StG cu l l' ∧ l.length ≤ 8 ∧ ((chk none l' ≠ 0 ∧ e = .returned (.tuple #[.pointer none, .int .i64 (chk none l')])) ∨
      (chk none l' = 0 ∧ ∃ p A c, e = .returned (.tuple #[.pointer (some ⟨p, 0, none⟩), .int .i64 0]) ∧ RowB w' p 125 #[.slice A l'.length c] ∧ RowAt w' w.heap.size w'.heap.size unC 14 A l' ∧ w.heap.size ≤ p)))
set_option maxHeartbeats 16000000 in
set_option maxRecDepth 100000 in
theorem ofP_any (A : Option Addr) (cap : Nat) (us : List Un) (w : World) (hv : RowV w unC 14 A us) (hs : ∀ u ∈ us, u.n.size ≤ 100000) (hlen : us.length ≤ 100000) :
    Calls Tryz.prog 30 #[.slice A us.length cap] w (PrQ w us) := by
  by_cases h8 : 8 < us.length
  · have q8 : (us.length : Int) > 8 := by omega
    have H8 := Lib.hid h8
    obtain ⟨n, hn⟩ : ∃ n, n = us.length := ⟨_, rfl⟩
    rw [← hn] at q8 ⊢
    clear hv hs h8 hn hlen
    go_enter Tryz.func30, Tryz.ntmps30
    go_wp2_with fail
    (first | go_ret | go_ret2)
    exact ⟨Below.refl _ _, .inl ⟨H8.out, rfl⟩⟩
  have C1 := Lib.hid (cloneU_any A cap us w hv (by omega))
  have HS := Lib.hid hs
  have HL : Hid (us.length ≤ 8) := by unfold Hid; omega
  obtain ⟨n, hn⟩ : ∃ n, n = us.length := ⟨_, rfl⟩
  have HN := Lib.hid hn
  rw [← hn] at C1 ⊢
  have hn8 : n ≤ 8 := by omega
  have q8 : ¬ (n : Int) > 8 := by omega
  clear hv hs h8 hn hlen
  go_enter Tryz.func30, Tryz.ntmps30
  go_wp2_with fail
  refine C1.out.mono ?_
  rintro e w1 ⟨v1, rfl, ho, hb⟩
  obtain ⟨A1, c1, rfl, hc1⟩ := own_shape ho
  have C2 := Lib.hid (sortU_any (w := w1) (A := A1) (c := c1) (l := us) ho HN.out HL.out)
  have HB := Lib.hid hb
  have HO := Lib.hid ho
  clear ho hb C1 hc1 q8
  go_wp2_with fail
  refine C2.out.mono ?_
  rintro e w2 ⟨rfl, ⟨l, hst, hr⟩, a1, a2, a3, a4, a5⟩
  have hB2 : Below w.heap.size w w2 := ⟨a1.trans HB.out.os, a2.trans HB.out.tape, a3.trans HB.out.output, Nat.le_trans HB.out.size a4, fun g hg => (a5 g (Nat.lt_of_lt_of_le hg HB.out.size) (fun e => by have := (HO.out.lt g e).1; omega)).trans (HB.out.block g hg)⟩
  have HB2 := Lib.hid hB2
  have HST := Lib.hid hst
  have HR := Lib.hid hr
  have HNL : Hid (n = l.length) := by unfold Hid; rw [hst.len]; exact HN.out
  have HSL : Hid (∀ u ∈ l, u.n.size ≤ 100000) := fun u hu => HS.out u (hst.perm.subset hu)
  clear hst hr a1 a2 a3 a4 a5 hB2 C2 HO HB HS
  go_wp2_with fail
  go_loopg [16] (n + 1) (fun kx s16 wr => ∃ (i : Nat), s16 = .int .i64 i ∧ n - i ≤ kx ∧ i ≤ n ∧ Hid (Below w2.heap.size w2 wr) ∧ Hid (chk none l = chk (ahd l i) (l.drop i)))
  case atStart => exact ⟨0, rfl, by omega, by omega, Below.refl _ _, by unfold Hid; rw [List.drop_zero]; rfl⟩
  case round =>
    obtain ⟨i, rfl, hkx, hin, HQ, HC⟩ := hrel
    by_cases hi : i < n
    · have hil : (i : Int) < (n : Int) := by omega
      obtain ⟨x, hx⟩ : ∃ x, l[i]? = some x := ⟨l[i]'(by rw [← HNL.out]; exact hi), List.getElem?_eq_getElem _⟩
      obtain ⟨g1, eA, _, l1, k1⟩ := row_up HR.out (Nat.le_refl _) HQ.out (by rw [← HNL.out]; omega)
      have a0 : wr.cell? ⟨g1, i * 14, none⟩ = some (.string x.n) := k1 i x hx 0 _ rfl
      have a1 := k1 i x hx 1 _ rfl
      have a2 := k1 i x hx 2 _ rfl
      have a3 := k1 i x hx 3 _ rfl
      have a4 := k1 i x hx 4 _ rfl
      have a5 := k1 i x hx 5 _ rfl
      have a6 := k1 i x hx 6 _ rfl
      have a7 := k1 i x hx 7 _ rfl
      have a8 := k1 i x hx 8 _ rfl
      have a9 := k1 i x hx 9 _ rfl
      have a10 := k1 i x hx 10 _ rfl
      have a11 := k1 i x hx 11 _ rfl
      have a12 := k1 i x hx 12 _ rfl
      have a13 := k1 i x hx 13 _ rfl
      have hstep := chk_step hx
      have hxs := HSL.out x (List.mem_of_getElem? hx)
      have CI := Lib.hid (fun W => isname_any x.n hxs W)
      have HPY : Hid (∀ q, i = q + 1 → ∃ y : Un, l[q]? = some y ∧ wr.cell? ⟨g1, q * 14, none⟩ = some (.string y.n)) := fun q hq => by
        have hql : q < l.length := by rw [← HNL.out]; omega
        exact ⟨l[q], List.getElem?_eq_getElem hql, k1 q _ (List.getElem?_eq_getElem hql) 0 _ rfl⟩
      have HAH : Hid (∀ q y, i = q + 1 → l[q]? = some y → ahd l i = some (Un.n y)) := fun q y hq hy => by unfold ahd; rw [if_neg (by omega), show i - 1 = q by omega, hy]; rfl
      have HA0 : Hid (i = 0 → ahd l i = none) := fun h0 => by unfold ahd; rw [if_pos h0]
      obtain ⟨⟨xn, xx, xA, xln, xcp, xkd, xfr, xtl, xwd, xat, xB, xkl, xkc, xA1, xn1, xc1, xA2, xn2, xc2, xA3, xn3, xc3, xbad, xab⟩, rfl⟩ : ∃ x', x = x' := ⟨_, rfl⟩
      simp only at a0 a1 a2 a3 a4 a5 a6 a7 a8 a9 a10 a11 a12 a13 CI hstep
      have HSTEP := Lib.hid hstep
      obtain ⟨j, hj⟩ : ∃ j, j = i + 1 := ⟨_, rfl⟩
      have HJ := Lib.hid hj
      have e1 : IntKind.i64.wrap ((i : Int) + 1) = (j : Int) := by rw [IntKind.wrap_i64]; omega
      have HQ2 : Hid (Below w2.heap.size w2 (wr.alloc (.cells #[.string xn, .string xx, .slice xA xln xcp, .int .i64 xkd, .int .i64 xfr, .int .i64 xtl, .string xwd, .int .i64 xat, .slice xB xkl xkc, .slice xA1 xn1 xc1, .slice xA2 xn2 xc2, .slice xA3 xn3 xc3, .int .i64 xbad, .int .i64 xab] 52))) := HQ.out.alloc HQ.out.size _
      obtain ⟨b, hb⟩ : ∃ b, b = rnameL xn.data.toList := ⟨_, rfl⟩
      rw [← hb] at CI
      have HBN := Lib.hid hb
      subst eA
      clear hx k1 hstep hj hb hxs
      cases b
      · go_wp2_with fail
        refine (CI.out _).mono ?_
        rintro e wx ⟨rfl, rfl⟩
        have hck : chk none l = 1 := by rw [HC.out, HSTEP.out, if_pos HBN.out.symm]
        have HCK := Lib.hid hck
        clear hck
        go_wp2_with fail
        (first | go_ret | go_ret2)
        exact ⟨HB2.out.trans (HQ2.out.mono HB2.out.size), .inr ⟨l, HST.out, HL.out, .inl ⟨by rw [HCK.out]; decide, by rw [HCK.out]; rfl⟩⟩⟩
      · go_wp2_with fail
        refine (CI.out _).mono ?_
        rintro e wx ⟨rfl, rfl⟩
        by_cases h0 : i = 0
        · have hgt : decide (0 < i) = false := by rw [h0]; rfl
          have HC2 : Hid (chk none l = chk (ahd l j) (l.drop j)) := by
            unfold Hid
            rw [HC.out, HSTEP.out, if_neg (by rw [← HBN.out]; decide), if_neg (by rw [HA0.out h0]; simp), HJ.out]
          clear h0
          go_wp2_with fail
          go_quiet (fail)
          have HQ3 : Hid (Below w2.heap.size w2 ((wr.alloc (.cells #[.string xn, .string xx, .slice xA xln xcp, .int .i64 xkd, .int .i64 xfr, .int .i64 xtl, .string xwd, .int .i64 xat, .slice xB xkl xkc, .slice xA1 xn1 xc1, .slice xA2 xn2 xc2, .slice xA3 xn3 xc3, .int .i64 xbad, .int .i64 xab] 52)).drewN nq)) := HQ2.out.trans ⟨rfl, rfl, rfl, Nat.le_refl _, fun _ _ => rfl⟩
          clear a0 a1 a2 a3 a4 a5 a6 a7 a8 a9 a10 a11 a12 a13 HQ2
          go_wp2_with fail
          have hj := HJ.out
          go_roundg (n - j)
          case measure => omega
          case rel => exact ⟨j, rfl, by omega, by omega, HQ3.out, HC2.out⟩
        · obtain ⟨q, hq⟩ : ∃ q, i = q + 1 := ⟨i - 1, by omega⟩
          have HPQ := Lib.hid hq
          obtain ⟨y, hy, hyc⟩ := HPY.out q hq
          have hah := HAH.out q y hq hy
          have hgt : 0 < i := by omega
          have ew2 : (i : Int) - 1 = (q : Int) := by omega
          have hql : (q : Int) < (n : Int) := by omega
          obtain ⟨yn, hyn⟩ : ∃ yn, yn = y.n := ⟨_, rfl⟩
          rw [← hyn] at hyc hah
          by_cases he : yn = xn
          · have hck : chk none l = 4 := by rw [HC.out, HSTEP.out, if_neg (by rw [← HBN.out]; decide), if_pos (by rw [hah, he])]
            have HCK := Lib.hid hck
            have hte : (yn.toList == xn.toList) = true := by rw [he]; simp
            clear hck hq h0 hah he hy hyn
            go_wp2_with fail
            go_quiet (fail)
            have HQ3 : Hid (Below w2.heap.size w2 ((wr.alloc (.cells #[.string xn, .string xx, .slice xA xln xcp, .int .i64 xkd, .int .i64 xfr, .int .i64 xtl, .string xwd, .int .i64 xat, .slice xB xkl xkc, .slice xA1 xn1 xc1, .slice xA2 xn2 xc2, .slice xA3 xn3 xc3, .int .i64 xbad, .int .i64 xab] 52)).drewN nq)) := HQ2.out.trans ⟨rfl, rfl, rfl, Nat.le_refl _, fun _ _ => rfl⟩
            clear a0 a1 a2 a3 a4 a5 a6 a7 a8 a9 a10 a11 a12 a13 HQ2 hyc
            go_wp2_with fail
            (first | go_ret | go_ret2)
            exact ⟨HB2.out.trans (HQ3.out.mono HB2.out.size), .inr ⟨l, HST.out, HL.out, .inl ⟨by rw [HCK.out]; decide, by rw [HCK.out]; rfl⟩⟩⟩
          · have HC2 : Hid (chk none l = chk (ahd l j) (l.drop j)) := by
              unfold Hid
              rw [HC.out, HSTEP.out, if_neg (by rw [← HBN.out]; decide), if_neg (by rw [hah]; intro e; injection e with e; exact he e), HJ.out]
            have hte : (yn.toList == xn.toList) = false := by
              rw [beq_eq_false_iff_ne]
              intro g
              rw [ByteArray.toList_eq, ByteArray.toList_eq] at g
              refine he ?_
              cases yn; cases xn
              simp only [ByteArray.mk.injEq]
              exact Array.toList_inj.1 g
            clear hq h0 hah he hy hyn
            go_wp2_with fail
            go_quiet (fail)
            have HQ3 : Hid (Below w2.heap.size w2 ((wr.alloc (.cells #[.string xn, .string xx, .slice xA xln xcp, .int .i64 xkd, .int .i64 xfr, .int .i64 xtl, .string xwd, .int .i64 xat, .slice xB xkl xkc, .slice xA1 xn1 xc1, .slice xA2 xn2 xc2, .slice xA3 xn3 xc3, .int .i64 xbad, .int .i64 xab] 52)).drewN nq)) := HQ2.out.trans ⟨rfl, rfl, rfl, Nat.le_refl _, fun _ _ => rfl⟩
            clear a0 a1 a2 a3 a4 a5 a6 a7 a8 a9 a10 a11 a12 a13 HQ2 hyc
            go_wp2_with fail
            have hj := HJ.out
            go_roundg (n - j)
            case measure => omega
            case rel => exact ⟨j, rfl, by omega, by omega, HQ3.out, HC2.out⟩
    · have hd1 : decide ((i : Int) < (n : Int)) = false := decide_eq_false (by omega)
      have hin2 : i = n := by omega
      have hck : chk none l = 0 := by rw [HC.out, List.drop_eq_nil_of_le (by rw [← HNL.out]; omega)]; rfl
      have HCK := Lib.hid hck
      have RN := Lib.hid (RowB.new wr 125 #[.slice A1 n c1])
      have HRR := Lib.hid (row_up HR.out (Nat.le_refl _) (HQ.out.alloc HQ.out.size (.cells #[.slice A1 n c1] 125)))
      have HBB : Hid (Below w.heap.size w (wr.alloc (.cells #[.slice A1 n c1] 125))) := (HB2.out.trans (HQ.out.mono HB2.out.size)).alloc (Nat.le_trans HB2.out.size HQ.out.size) _
      have HLO : Hid (w.heap.size ≤ wr.heap.size) := Nat.le_trans HB2.out.size HQ.out.size
      clear hck hi
      go_wp2_with fail
      (first | go_ret | go_ret2)
      exact ⟨HBB.out, .inr ⟨l, HST.out, HL.out, .inr ⟨HCK.out, _, A1, c1, rfl, by rw [← HNL.out]; exact RN.out, HRR.out, HLO.out⟩⟩⟩
end Pj
end Go.Proofs.YthjflofcgdfekaaGreatDoor
