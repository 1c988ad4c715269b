/- Contracts: edit.Sort. -/
import Derived.Test.YtendbkbjmibchaaSI
import Derived.Lib.SliceRun
namespace Go.Proofs.Ytendbkbjmibchaa
open Go.RowKit Go.Sort Go.Proofs Go.Shelf

theorem swk_below {w0 W : World} {blk off : Nat} {dk : Array Ed} (S : SWK enc3 3 w0 blk off dk W) (B : Nat) (hB : B ≤ blk) (hb : blk < w0.heap.size) : Below B w0 W := by
  obtain ⟨n, os, rfl⟩ := S
  refine ⟨rfl, rfl, rfl, ?_, fun k hk => ?_⟩
  · unfold sortWorldK; rw [size_grow, size_putRowK]; show w0.heap.size ≤ w0.heap.size + _; omega
  · unfold sortWorldK putRowK putRow mapBlock Go.Sort.grow Go.Sort.ahead
    have h1 : k < (w0.heap.modify blk (onCells (putCells id off (flatK enc3 3 dk)))).size := by simp; omega
    simp only [Array.getElem?_append, h1, if_true, Array.getElem?_modify]
    rw [if_neg (by omega)]
theorem swk_eds {w0 W : World} {blk off : Nat} {d0 dk : Array Ed} (S : SWK enc3 3 w0 blk off dk W) (R : RowK enc3 3 w0 blk off d0) (hs : dk.size = d0.size) : Eds W W.heap.size (some ⟨blk, off, none⟩) dk.toList := fun h0 => by
  refine ⟨blk, off, rfl, S.lt R.hblk, fun i hi => ?_⟩
  have hi' : i < dk.size := by simpa using hi
  obtain ⟨⟨h1, h2, h3⟩, _⟩ := swk_cells S R hs i hi'
  have e : dk[i]! = dk.toList[i] := by rw [getElem!_pos dk i hi']; simp
  rw [e] at h1 h2 h3
  exact ⟨h1, h2, h3⟩
theorem own_holds {w : World} {base g cap : Nat} {es : List Ed} (h : w.ownsRow base 68 3 (.slice (some ⟨g, 0, none⟩) es.length cap) es.length (ecs es)) : HoldsK enc3 3 w g 0 es.toArray := fun t ht => by
  rw [size_flatK] at ht
  have ht' : t < es.length * 3 := by simpa using ht
  rw [get_flatK _ _ _ _ ht]
  have hi : t / 3 < es.length := by omega
  have e : es.toArray[t / 3]! = es[t / 3] := by rw [getElem!_pos es.toArray (t / 3) (by simpa using hi)]; simp
  rw [e]
  obtain ⟨a0, a1, a2⟩ := ecs_at es (t / 3) hi
  have hadd : ∀ j, (⟨g, 0, none⟩ : Addr).add j = ⟨g, 0 + j, none⟩ := fun j => by unfold Addr.add; split <;> simp_all
  have hc : (ecs es)[t]? = some ((enc3 es[t / 3])[t % 3]!) := by
    have hr : t % 3 = 0 ∨ t % 3 = 1 ∨ t % 3 = 2 := by omega
    rcases hr with hr | hr | hr
    · rw [show t / 3 * 3 = t by omega] at a0; rw [hr, a0]; rfl
    · rw [show t / 3 * 3 + 1 = t by omega] at a1; rw [hr, a1]; rfl
    · rw [show t / 3 * 3 + 2 = t by omega] at a2; rw [hr, a2]; rfl
  have b0 := h.cells (g := g) rfl _ _ hc
  rw [hadd] at b0
  exact ⟨b0, h.frozenAt (0 + t)⟩

theorem ecs_one_cell (es : List Ed) : ∀ u ∈ ecs es, u.oneCell' = true := by
  intro u hu
  unfold ecs at hu
  rw [List.mem_flatMap] at hu
  obtain ⟨e, _, he⟩ := hu
  exact enc3_one e u he
theorem eds_cells {w : World} {B : Nat} {ad : Addr} {es : List Ed} (h : Eds w B (some ad) es) : ∀ j u, (ecs es)[j]? = some u → w.cell? (ad.add j) = some u := fun j u hj => by
  have hl : j < es.length * 3 := by
    rcases Nat.lt_or_ge j (es.length * 3) with c | c
    · exact c
    · rw [List.getElem?_eq_none (by rw [ecs_len]; exact c)] at hj; cases hj
  obtain ⟨b, off, e, _, hc⟩ := h (by omega)
  injection e with e
  subst e
  have hi : j / 3 < es.length := by omega
  obtain ⟨a0, a1, a2⟩ := ecs_at es (j / 3) hi
  obtain ⟨c0, c1, c2⟩ := hc (j / 3) hi
  have hadd : (⟨b, off, none⟩ : Addr).add j = ⟨b, off + j, none⟩ := by unfold Addr.add; split <;> simp_all
  rw [hadd]
  have hr : j % 3 = 0 ∨ j % 3 = 1 ∨ j % 3 = 2 := by omega
  rcases hr with hr | hr | hr
  · have e : j = j / 3 * 3 := by omega
    rw [e] at hj ⊢
    rw [a0] at hj; injection hj with hj; subst hj
    exact c0
  · have e : j = j / 3 * 3 + 1 := by omega
    rw [e] at hj ⊢
    rw [a1] at hj; injection hj with hj; subst hj
    rw [← Nat.add_assoc]; exact c1
  · have e : j = j / 3 * 3 + 2 := by omega
    rw [e] at hj ⊢
    rw [a2] at hj; injection hj with hj; subst hj
    rw [← Nat.add_assoc]; exact c2

set_option maxHeartbeats 2000000 in
set_option maxRecDepth 100000 in
theorem clone_any (A : Option Addr) (cap : Nat) (es : List Ed) (w : World) (hes : Eds w w.heap.size A es) (hl : es.length ≤ 1000000) :
    Calls Try.prog 55 #[.slice A es.length cap] w fun e w' => ∃ v', e = .returned v' ∧ w'.ownsRow w.heap.size 68 3 v' es.length (ecs es) ∧ Below w.heap.size w w' := by
  obtain ⟨i0, hi, hz0, hz1, hz2⟩ := info_parts info68
  have q22 : ∀ (w : World) (a : Option Addr) (n c n' c' : Nat), (binOp .eql 53 (.slice a n c) (.slice none n' c')).run Try.prog w = .ok (.bool a.isNone) w := fun w a n c n' c' => Lib.run_eql_slice_nil w _ _ a n c n' c' Try.underlying53
  cases A with
  | none =>
    have h0 : es = [] := by
      cases es with
      | nil => rfl
      | cons e r => obtain ⟨b, off, h, _⟩ := hes (by simp); cases h
    subst h0
    go_enter Try.func55, Try.ntmps55
    go_wp2
    go_ret
    exact ⟨_, rfl, ⟨rfl, .inl ⟨rfl, rfl⟩⟩, Below.refl _ _⟩
  | some ad =>
    have HC := Lib.hid (eds_cells hes)
    clear hes
    go_enter Try.func55, Try.ntmps55
    go_wp2_with (at_builtin; refine wpList_append_own _ rfl _ _ 53 rfl w.heap.size 68 i0 _ 3 32 Try.underlying53 hi hz0 hz1 hz2 rfl (by omega) _ _ _ rfl (World.ownsRow_made w #[] 0 (Nat.le_refl _) (Nat.zero_le _) (by simp)) ad es.length cap (ecs es) rfl ?qc1 ?qc2 ?qc3 ?qc4 ?qc5 ?qc6 ?_)
    case qc1 => exact ecs_len es
    case qc2 =>
      intro j u hj
      exact Lib.cell?_alloc_some _ (HC.out j u hj)
    case qc3 => exact ecs_one_cell es
    case qc4 => unfold maxLen; omega
    case qc5 => omega
    case qc6 => simp
    intro v' w1 hown hgrow hnil
    have HO := Lib.hid hown
    have HB : Hid (Below w.heap.size w w1) := ((Below.refl _ w).alloc (Nat.le_refl _) _).grown hgrow (by simp) (by intro k hk; simp [Value.ownBlock] at hk; omega)
    clear hown hgrow hnil
    go_wp2
    go_ret
    exact ⟨v', rfl, by simpa using HO.out, HB.out⟩

set_option maxHeartbeats 2000000 in
set_option maxRecDepth 100000 in
theorem stable_none (A : Option Addr) (cap : Nat) (fv : Value) (w : World) : Calls Try.prog 66 #[.slice A 0 cap, .int .i64 0, fv] w fun e w' => e = .returned (.tuple #[]) ∧ w' = w := by
  have h73 : ∀ w, Calls Try.prog 73 #[.slice A 0 cap, .int .i64 0, .int .i64 0, fv] w fun e w' => e = .returned (.tuple #[]) ∧ w' = w := fun w => by
    go_enter Try.func73, Try.ntmps73
    go_wp2_with fail
    refine wp_loop_rounds 1 ?_
    rw [rounds_succ]
    go_wp2
    go_end0
    exact ⟨rfl, rfl⟩
  go_enter Try.func66, Try.ntmps66
  go_wp2_with fail
  refine wp_loop_rounds 1 ?_
  rw [rounds_succ]
  go_wp2_with (go_at_call 73; refine (h73 _).mono ?_; rintro e w' ⟨rfl, rfl⟩)
  refine wp_loop_rounds 1 ?_
  rw [rounds_succ]
  go_wp2
  go_end0
  exact ⟨rfl, rfl⟩

/-- What Sort answers: the same edits, in order. -/
def Sorted_ (es os : List Ed) : Prop := os.Perm es ∧ ∀ i j (hj : j < os.length) (hij : i < j), LT os[j] (os[i]'(by omega)) = false

set_option maxHeartbeats 2000000 in
set_option maxRecDepth 100000 in
theorem sort_any (A : Option Addr) (cap : Nat) (es : List Ed) (w : World) (hes : Eds w w.heap.size A es) (hl : es.length ≤ 1000000) :
    Calls Try.prog 40 #[.slice A es.length cap] w fun e w' => ∃ A' c' os, e = .returned (.slice A' es.length c') ∧ os.length = es.length ∧ Sorted_ es os ∧ Eds w' w'.heap.size A' os ∧ Below w.heap.size w w' := by
  have HES := Lib.hid hes
  clear hes
  go_enter Try.func40, Try.ntmps40
  go_wp2_with fail
  refine (clone_any A cap es _ HES.out hl).mono ?_
  rintro e w1 ⟨v', rfl, hown, hb⟩
  obtain ⟨A1, c1, rfl⟩ := own_form3 hown
  have HO := Lib.hid hown
  have HB := Lib.hid hb
  clear hown hb
  go_wp2_with fail
  by_cases h0 : es.length = 0
  · have hn : es = [] := List.eq_nil_of_length_eq_zero h0
    subst hn
    simp only [List.length_nil] at *
    have c56 : ∀ w, Calls Try.prog 56 #[.slice A1 0 c1, .func (.func 57) #[] #[]] w fun e w' => e = .returned (.tuple #[]) ∧ w' = w := fun w => by
      go_enter Try.func56, Try.ntmps56
      go_wp2_with (go_at_call 66; refine (stable_none _ _ _ _).mono ?_; rintro e w' ⟨rfl, rfl⟩)
      go_end0
      exact ⟨rfl, rfl⟩
    refine (c56 _).mono ?_
    rintro e w2 ⟨rfl, rfl⟩
    go_wp2_with fail
    go_ret
    exact ⟨A1, c1, [], rfl, rfl, ⟨List.Perm.refl _, fun i j hj => by simp at hj⟩, fun h => by simp at h, HB.out⟩
  · obtain ⟨g, cp, cur, hv, hg, hh, _⟩ : ∃ g cap cur, (Value.slice A1 es.length c1) = .slice (some ⟨g, 0, none⟩) es.length cap ∧ w.heap.size ≤ g ∧ w1.heap[g]? = some (.cells cur 68) ∧ True := by
      rcases HO.out.2 with ⟨_, hx⟩ | ⟨g, cap, cur, hv, hg, hh, _⟩
      · exact absurd hx h0
      · exact ⟨g, cap, cur, hv, hg, hh, trivial⟩
    injection hv with hA _ hc
    subst hA hc
    have hH := own_holds HO.out
    have hgl : g < w1.heap.size := (HO.out.lt g rfl).2
    have R : RowK enc3 3 w1 g 0 es.toArray := ⟨enc3_len, enc3_one, hH, hgl⟩
    have c := stable_any g 0 c1 es.toArray es.toArray w1 w1 R rfl (SWK.start hH) (by simpa using hl)
    have e0 : es.toArray.size = es.length := by simp
    rw [e0] at c
    have c56 : Calls Try.prog 56 #[.slice (some ⟨g, 0, none⟩) es.length c1, .func (.func 57) #[] #[]] w1 fun e w' => e = .returned (.tuple #[]) ∧ ∃ os, os.length = es.length ∧ Sorted_ es os ∧ Eds w' w'.heap.size (some ⟨g, 0, none⟩) os ∧ Below w.heap.size w1 w' := by
      have C := Lib.hid c
      have RR := Lib.hid R
      clear c hH HO
      go_enter Try.func56, Try.ntmps56
      go_wp2_with fail
      refine C.out.mono ?_
      rintro e w2 ⟨rfl, d', s2, z2, p2, x2⟩
      have S2 : Aside _ := s2
      have Z2 := Lib.hid z2
      have P2 := Lib.hid p2
      have X2 := Lib.hid x2
      clear s2 z2 p2 x2
      go_wp2_with fail
      go_end0
      refine ⟨rfl, d'.toList, by have := Z2.out; simpa using this, ⟨?_, ?_⟩, swk_eds S2.out RR.out (by rw [Z2.out, e0]), swk_below S2.out _ hg hgl⟩
      · have h1 := P2.out.2.2
        have h2 : d'.extract 0 es.length = d' := by rw [← Z2.out]; simp
        have h3 : es.toArray.extract 0 es.length = es.toArray := by rw [← e0]; simp
        rw [h2, h3] at h1
        simpa using h1
      · intro i j hj hij
        have hj' : j < d'.size := by simpa using hj
        have h1 := X2.out i j (Nat.zero_le _) hij (by rw [← Z2.out]; exact hj')
        unfold at_ at h1
        rw [getElem!_pos d' j hj', getElem!_pos d' i (by omega)] at h1
        simpa using h1
    have C := Lib.hid c56
    clear c c56 R hH HO e0
    refine C.out.mono ?_
    rintro e w2 ⟨rfl, os, h1, h2, h3, h4⟩
    have H2 := Lib.hid h2
    have H3 := Lib.hid h3
    have H4 := Lib.hid (HB.out.trans h4)
    have H1 := Lib.hid h1
    clear h1 h2 h3 h4
    go_wp2_with fail
    go_ret
    exact ⟨_, c1, os, rfl, H1.out, H2.out, H3.out, H4.out⟩
end Go.Proofs.Ytendbkbjmibchaa
