import Derived.Test.YthjflofcgdfekaaGreatDoorMAW
namespace Go.Proofs.YthjflofcgdfekaaGreatDoor
namespace Ps
variable {l : List Tok}
def mm (l : List Tok) (b : Int) (i : Nat) : Nat := if 0 ≤ b then 0 else l.length - i
def Tm (l : List Tok) (b : Int) (i d : Nat) (o : Res) : Prop := ∃ r, o = some r ∧ (r.2.2 < 0 → r.2.1 < l.length) ∧ mm l r.2.2 r.2.1 ≤ mm l b i - d
theorem mm_bad {b : Int} {i : Nat} (h : 0 ≤ b) : mm l b i = 0 := by unfold mm; rw [if_pos h]
theorem mm_good {b : Int} {i : Nat} (h : b < 0) : mm l b i = l.length - i := by unfold mm; rw [if_neg (by omega)]
theorem mm_pos {b : Int} {i : Nat} (h : b < 0) (hi : b < 0 → i < l.length) : 1 ≤ mm l b i := by have := hi h; rw [mm_good h]; omega
theorem want_T (W : Wf l) {b : Int} {i : Nat} (x : List UInt8) (_hi : b < 0 → i < l.length) : ((wantM l b i x).2 < 0 → (wantM l b i x).1 < l.length) ∧ mm l (wantM l b i x).2 (wantM l b i x).1 ≤ mm l b i - 1 := by
  by_cases hb : 0 ≤ b
  · rw [wantM_bad hb]; dsimp only; rw [mm_bad hb]; exact ⟨fun h => absurd h (by omega), by omega⟩
  · unfold wantM
    rw [if_neg hb]
    by_cases hm : isM l i x = true
    · rw [if_pos hm]
      have := isM_next W hm
      dsimp only
      rw [mm_good (by omega), mm_good (by omega)]
      exact ⟨fun _ => this, by omega⟩
    · rw [if_neg hm]; dsimp only; rw [mm_bad (b := (i : Int)) (by omega)]; exact ⟨fun h => absurd h (by omega), by omega⟩
theorem word_T (W : Wf l) {b : Int} {i : Nat} (h : Hd) (_hi : b < 0 → i < l.length) : ((wordM l b h i).2.2 < 0 → (wordM l b h i).2.1 < l.length) ∧ mm l (wordM l b h i).2.2 (wordM l b h i).2.1 ≤ mm l b i - 1 := by
  by_cases hb : 0 ≤ b
  · rw [wordM_bad hb]; dsimp only; rw [mm_bad hb]; exact ⟨fun h => absurd h (by omega), by omega⟩
  · unfold wordM
    rw [if_neg hb]
    by_cases hm : kindAt l i = 1
    · rw [if_pos hm]
      have := kindAt_next W (i := i) (by omega)
      dsimp only
      rw [mm_good (by omega), mm_good (by omega)]
      exact ⟨fun _ => this, by omega⟩
    · rw [if_neg hm]; dsimp only; rw [mm_bad (b := (i : Int)) (by omega)]; exact ⟨fun h => absurd h (by omega), by omega⟩
theorem on_T {b : Int} {i : Nat} (hb : b < 0) (h : i + 1 < l.length) : (b < 0 → i + 1 < l.length) ∧ mm l b (i + 1) ≤ mm l b i - 1 := by
  rw [mm_good hb, mm_good hb]; exact ⟨fun _ => h, by omega⟩
theorem Tm.ret {b b' : Int} {i i' d : Nat} {k : Fo} (h : b' < 0 → i' < l.length) (hm : mm l b' i' ≤ mm l b i - d) : Tm l b i d (some (k, i', b')) := ⟨_, rfl, h, hm⟩
theorem Tm.of {b : Int} {i d : Nat} {r : Fo × Nat × Int} (h : r.2.2 < 0 → r.2.1 < l.length) (hm : mm l r.2.2 r.2.1 ≤ mm l b i - d) : Tm l b i d (some r) := ⟨r, rfl, h, hm⟩
theorem Tm.pre {b : Int} {i d : Nat} {k : Fo} {r : Fo × Nat × Int} (h : r.2.2 < 0 → r.2.1 < l.length) (hm : mm l r.2.2 r.2.1 ≤ mm l b i - d) : Tm l b i d (Res.pre k (some r)) := ⟨(k.app r.1, r.2), rfl, h, hm⟩
def rT : TT → Nat
  | .kind => 1
  | _ => 2
def sT : TT → Nat
  | .kind => 1
  | _ => 0
theorem ty_T (W : Wf l) : ∀ (f : Nat) (t : TT) (b : Int) (i : Nat), (b < 0 → i < l.length) → 20 * mm l b i + rT t ≤ f → Tm l b i (sT t) (tyM l f t b i) := by
  intro f
  induction f with
  | zero => intro t b i _ h; cases t <;> simp [rT] at h
  | succ f ih =>
    intro t b i hi hf
    by_cases hb : 0 ≤ b
    · have hb' : ¬ b < 0 := by omega
      have h0 : mm l b i = 0 := mm_bad hb
      cases t with
      | kind => rw [tyM, if_pos hb]; exact Tm.ret hi (by rw [h0]; omega)
      | recL first => rw [tyM, if_neg (fun hh => hb' hh.1)]; exact Tm.ret hi (by rw [h0]; omega)
      | fnL first => rw [tyM, if_neg (fun hh => hb' hh.1)]; exact Tm.ret hi (by rw [h0]; omega)
    · have hg : b < 0 := by omega
      have hp := mm_pos hg hi
      cases t with
      | kind =>
        simp only [rT] at hf
        rw [tyM, if_neg hb]
        split
        · rename_i hm; have := on_T (l := l) (i := i) hg (isM_next W hm); exact Tm.ret this.1 this.2
        · split
          · rename_i hm; have := on_T (l := l) (i := i) hg (isM_next W hm); exact Tm.ret this.1 this.2
          · split
            · rename_i hm; have := on_T (l := l) (i := i) hg (isM_next W hm); exact Tm.ret this.1 this.2
            · split
              · rename_i hm
                obtain ⟨h1, m1⟩ := on_T (l := l) (i := i) hg (isM_next W hm)
                obtain ⟨x, ex, hx, mx⟩ := ih (.recL true) b (i + 1) h1 (by simp only [rT]; omega)
                rw [ex, Option.bind_some]
                dsimp only
                obtain ⟨h2, m2⟩ := want_T W sShut hx
                simp only [sT] at mx ⊢
                exact Tm.ret h2 (by omega)
              · obtain ⟨h1, m1⟩ := want_T W kFn hi
                obtain ⟨h2, m2⟩ := want_T W sParO h1
                obtain ⟨x, ex, hx, mx⟩ := ih (.fnL true) _ _ h2 (by simp only [rT]; omega)
                dsimp only
                rw [ex, Option.bind_some]
                obtain ⟨h3, m3⟩ := want_T W sParS hx
                obtain ⟨h4, m4⟩ := want_T W sCol h3
                simp only [sT] at mx ⊢
                obtain ⟨t, et, ht, mt⟩ := ih .kind _ _ h4 (by simp only [rT]; omega)
                rw [et, Option.bind_some]
                simp only [sT] at mt
                exact Tm.ret ht (by omega)
      | recL first =>
        simp only [rT] at hf
        rw [tyM]
        split
        · obtain ⟨h1, m1⟩ := word_T W ⟨33, i, 0, e0, 0⟩ hi
          obtain ⟨h2, m2⟩ := want_T W sCol h1
          dsimp only
          obtain ⟨t, et, ht, mt⟩ := ih .kind _ _ h2 (by simp only [rT]; omega)
          rw [et, Option.bind_some]
          simp only [sT] at mt ⊢
          split
          · exact Tm.ret ht (by omega)
          · obtain ⟨h3, m3⟩ := want_T W sCom ht
            obtain ⟨x, ex, hx, mx⟩ := ih (.recL false) _ _ h3 (by simp only [rT]; omega)
            rw [ex]
            simp only [sT] at mx
            exact Tm.pre hx (by omega)
        · exact Tm.ret hi (by simp only [sT]; omega)
      | fnL first =>
        simp only [rT] at hf
        rw [tyM]
        split
        · obtain ⟨t, et, ht, mt⟩ := ih .kind _ _ hi (by simp only [rT]; omega)
          rw [et, Option.bind_some]
          simp only [sT] at mt ⊢
          split
          · exact Tm.ret ht (by omega)
          · obtain ⟨h3, m3⟩ := want_T W sCom ht
            obtain ⟨x, ex, hx, mx⟩ := ih (.fnL false) _ _ h3 (by simp only [rT]; omega)
            rw [ex]
            simp only [sT] at mx
            exact Tm.pre hx (by omega)
        · exact Tm.ret hi (by simp only [sT]; omega)
theorem typed_T (W : Wf l) {f : Nat} {b : Int} {i : Nat} (hi : b < 0 → i < l.length) (hf : 20 * mm l b i + 1 ≤ f) : Tm l b i 0 (typedM l f b i) := by
  unfold typedM
  by_cases hc : 0 ≤ b ∨ ¬ isM l i sCol = true
  · rw [if_pos hc]; exact Tm.ret hi (by omega)
  · rw [if_neg hc]
    have hg : b < 0 := by
      by_cases h : 0 ≤ b
      · exact absurd (.inl h) hc
      · omega
    have hm : isM l i sCol = true := by
      cases h : isM l i sCol with
      | true => rfl
      | false => exact absurd (.inr (by rw [h]; simp)) hc
    obtain ⟨h1, m1⟩ := on_T (l := l) (i := i) hg (isM_next W hm)
    obtain ⟨x, ex, hx, mx⟩ := ty_T W f .kind b (i + 1) h1 (by simp only [rT]; omega)
    rw [ex]
    simp only [sT] at mx
    exact Tm.of hx (by omega)
theorem par_T (W : Wf l) : ∀ (f : Nat) (first : Bool) (b : Int) (i : Nat), (b < 0 → i < l.length) → 20 * mm l b i + 2 ≤ f → Tm l b i 0 (parL l f first b i) := by
  intro f
  induction f with
  | zero => intro first b i _ h; omega
  | succ f ih =>
    intro first b i hi hf
    rw [parL]
    split
    · rename_i hc
      have hp := mm_pos hc.1 hi
      obtain ⟨h1, m1⟩ := word_T W ⟨5, i, 0, e0, 0⟩ hi
      dsimp only
      obtain ⟨t, et, ht, mt⟩ := typed_T W (f := f) h1 (by omega)
      rw [et, Option.bind_some]
      split
      · exact Tm.ret ht (by omega)
      · obtain ⟨h3, m3⟩ := want_T W sCom ht
        obtain ⟨x, ex, hx, mx⟩ := ih false _ _ h3 (by omega)
        rw [ex]
        exact Tm.pre hx (by omega)
    · exact Tm.ret hi (by omega)
theorem params_T (W : Wf l) {f : Nat} {b : Int} {i : Nat} (hi : b < 0 → i < l.length) (hf : 20 * mm l b i + 2 ≤ f) : Tm l b i 1 (paramsM l f b i) := by
  unfold paramsM
  obtain ⟨h1, m1⟩ := want_T W sParO hi
  dsimp only
  obtain ⟨x, ex, hx, mx⟩ := par_T W f true _ _ h1 (by omega)
  rw [ex, Option.bind_some]
  obtain ⟨h2, m2⟩ := want_T W sParS hx
  exact Tm.ret h2 (by omega)
def rX : XT → Nat
  | .lambda => 9
  | .block => 8
  | .stmts => 7
  | .stmt => 6
  | .expr => 5
  | .sum => 4
  | .sumL _ => 1
  | .term => 3
  | .termL _ => 1
  | .post => 2
  | .postL _ => 1
  | .args _ => 6
  | .atom => 1
  | .entries _ => 2
def sX : XT → Nat
  | .lambda | .block | .stmt | .expr | .sum | .term | .post | .atom => 1
  | _ => 0
theorem ex_T (W : Wf l) : ∀ (f : Nat) (t : XT) (b : Int) (i : Nat), (b < 0 → i < l.length) → (t = .stmt → b < 0) → 20 * mm l b i + rX t ≤ f → Tm l b i (sX t) (exM l f t b i) := by
  intro f
  induction f with
  | zero => intro t b i _ _ h; cases t <;> simp [rX] at h
  | succ f ih =>
    intro t b i hi hst hf
    cases t with
    | lambda =>
      simp only [rX] at hf
      rw [exM]
      obtain ⟨p, e1, h1, m1⟩ := params_T W (f := f) hi (by omega)
      rw [e1, Option.bind_some]
      obtain ⟨t, e2, h2, m2⟩ := typed_T W (f := f) h1 (by omega)
      rw [e2, Option.bind_some]
      obtain ⟨k, e3, h3, m3⟩ := ih .block _ _ h2 (fun h => by cases h) (by simp only [rX]; omega)
      rw [e3, Option.bind_some]
      simp only [sX] at m3 ⊢
      exact Tm.ret h3 (by omega)
    | block =>
      simp only [rX] at hf
      rw [exM]
      obtain ⟨h1, m1⟩ := want_T W sOpen hi
      dsimp only
      obtain ⟨x, e2, h2, m2⟩ := ih .stmts _ _ h1 (fun h => by cases h) (by simp only [rX]; omega)
      rw [e2, Option.bind_some]
      obtain ⟨h3, m3⟩ := want_T W sShut h2
      simp only [sX] at m2 ⊢
      exact Tm.ret h3 (by omega)
    | stmts =>
      simp only [rX] at hf
      rw [exM]
      split
      · rename_i hc
        have hp := mm_pos hc.1 hi
        obtain ⟨x, e2, h2, m2⟩ := ih .stmt _ _ hi (fun _ => hc.1) (by simp only [rX]; omega)
        rw [e2, Option.bind_some]
        simp only [sX] at m2
        obtain ⟨y, e3, h3, m3⟩ := ih .stmts _ _ h2 (fun h => by cases h) (by simp only [rX]; omega)
        rw [e3]
        simp only [sX] at m3 ⊢
        exact Tm.pre h3 (by omega)
      · exact Tm.ret hi (by simp only [sX]; omega)
    | stmt =>
      have hg := hst rfl
      have hp := mm_pos hg hi
      simp only [rX] at hf
      rw [exM]
      split
      · rename_i hm
        obtain ⟨h1, m1⟩ := on_T (l := l) (i := i) hg (isM_next W hm)
        obtain ⟨c, e2, h2, m2⟩ := ih .expr _ _ h1 (fun h => by cases h) (by simp only [rX]; omega)
        rw [e2, Option.bind_some]
        simp only [sX] at m2
        obtain ⟨k, e3, h3, m3⟩ := ih .block _ _ h2 (fun h => by cases h) (by simp only [rX]; omega)
        rw [e3, Option.bind_some]
        simp only [sX] at m3 ⊢
        split
        · rename_i hc
          obtain ⟨h4, m4⟩ := on_T (l := l) (i := k.2.1) hc.1 (isM_next W hc.2)
          obtain ⟨o, e5, h5, m5⟩ := ih .block _ _ h4 (fun h => by cases h) (by simp only [rX]; omega)
          rw [e5, Option.bind_some]
          simp only [sX] at m5
          exact Tm.ret h5 (by omega)
        · exact Tm.ret h3 (by omega)
      · split
        · rename_i hm
          obtain ⟨h1, m1⟩ := on_T (l := l) (i := i) hg (isM_next W hm)
          obtain ⟨c, e2, h2, m2⟩ := ih .expr _ _ h1 (fun h => by cases h) (by simp only [rX]; omega)
          rw [e2, Option.bind_some]
          simp only [sX] at m2
          obtain ⟨k, e3, h3, m3⟩ := ih .block _ _ h2 (fun h => by cases h) (by simp only [rX]; omega)
          rw [e3, Option.bind_some]
          simp only [sX] at m3 ⊢
          exact Tm.ret h3 (by omega)
        · split
          · rename_i hm
            obtain ⟨h1, m1⟩ := on_T (l := l) (i := i) hg (isM_next W hm)
            obtain ⟨h2, m2⟩ := word_T W ⟨7, i, 0, e0, 0⟩ h1
            dsimp only
            obtain ⟨t, e3, h3, m3⟩ := typed_T W (f := f) h2 (by omega)
            rw [e3, Option.bind_some]
            obtain ⟨h4, m4⟩ := want_T W sEq h3
            obtain ⟨v, e5, h5, m5⟩ := ih .expr _ _ h4 (fun h => by cases h) (by simp only [rX]; omega)
            rw [e5, Option.bind_some]
            obtain ⟨h6, m6⟩ := want_T W sSem h5
            simp only [sX] at m5 ⊢
            exact Tm.ret h6 (by omega)
          · dsimp only
            obtain ⟨x, hx, hx1, hx2⟩ : ∃ x : Hd × Nat × Int, (if isM l i kPrint = true then ((⟨11, i, 0, e0, 0⟩ : Hd), i + 1, b) else if isM l i kReturn = true then (⟨12, i, 0, e0, 0⟩, i + 1, b) else if kindAt l i = 1 ∧ isM l (i + 1) sEq = true then ((wordM l b ⟨8, i, 0, e0, 0⟩ i).1, (wordM l b ⟨8, i, 0, e0, 0⟩ i).2.1 + 1, (wordM l b ⟨8, i, 0, e0, 0⟩ i).2.2) else (⟨13, i, 0, e0, 0⟩, i, b)) = x ∧ (x.2.2 < 0 → x.2.1 < l.length) ∧ mm l x.2.2 x.2.1 ≤ mm l b i := by
              split
              · rename_i hm
                obtain ⟨h1, m1⟩ := on_T (l := l) (i := i) hg (isM_next W hm)
                exact ⟨_, rfl, h1, by dsimp only; omega⟩
              · split
                · rename_i hm
                  obtain ⟨h1, m1⟩ := on_T (l := l) (i := i) hg (isM_next W hm)
                  exact ⟨_, rfl, h1, by dsimp only; omega⟩
                · split
                  · rename_i hm
                    have hw : wordM l b ⟨8, i, 0, e0, 0⟩ i = (⟨8, i, 0, textAt l i, i⟩, i + 1, b) := by unfold wordM; rw [if_neg (by omega), if_pos hm.1]
                    rw [hw]
                    have h2 := isM_next W hm.2
                    refine ⟨_, rfl, fun _ => h2, ?_⟩
                    dsimp only
                    rw [mm_good hg, mm_good hg]
                    omega
                  · exact ⟨_, rfl, hi, Nat.le_refl _⟩
            rw [hx]
            obtain ⟨v, e5, h5, m5⟩ := ih .expr _ _ hx1 (fun h => by cases h) (by simp only [rX]; omega)
            rw [e5, Option.bind_some]
            obtain ⟨h6, m6⟩ := want_T W sSem h5
            simp only [sX] at m5 ⊢
            exact Tm.ret h6 (by omega)
    | expr =>
      simp only [rX] at hf
      rw [exM]
      obtain ⟨a, e1, h1, m1⟩ := ih .sum _ _ hi (fun h => by cases h) (by simp only [rX]; omega)
      rw [e1, Option.bind_some]
      simp only [sX] at m1 ⊢
      split
      · exact Tm.of h1 m1
      · rename_i hc
        have hg : a.2.2 < 0 := by
          by_cases h : 0 ≤ a.2.2
          · exact absurd (.inl h) hc
          · omega
        have hn : a.2.1 + 1 < l.length := by
          cases h1 : isM l a.2.1 sLess with
          | true => exact isM_next W h1
          | false =>
            cases h2 : isM l a.2.1 sEqEq with
            | true => exact isM_next W h2
            | false => exact absurd (.inr ⟨by rw [h1]; simp, by rw [h2]; simp⟩) hc
        obtain ⟨h2, m2⟩ := on_T (l := l) hg hn
        have hp := mm_pos hg h1
        obtain ⟨c, e3, h3, m3⟩ := ih .sum _ _ h2 (fun h => by cases h) (by simp only [rX]; omega)
        rw [e3, Option.bind_some]
        simp only [sX] at m3
        exact Tm.ret h3 (by omega)
    | sum =>
      simp only [rX] at hf
      rw [exM]
      obtain ⟨a, e1, h1, m1⟩ := ih .term _ _ hi (fun h => by cases h) (by simp only [rX]; omega)
      rw [e1, Option.bind_some]
      simp only [sX] at m1 ⊢
      obtain ⟨c, e3, h3, m3⟩ := ih (.sumL a.1) _ _ h1 (fun h => by cases h) (by simp only [rX]; omega)
      rw [e3]
      simp only [sX] at m3
      exact Tm.of h3 (by omega)
    | term =>
      simp only [rX] at hf
      rw [exM]
      obtain ⟨a, e1, h1, m1⟩ := ih .post _ _ hi (fun h => by cases h) (by simp only [rX]; omega)
      rw [e1, Option.bind_some]
      simp only [sX] at m1 ⊢
      obtain ⟨c, e3, h3, m3⟩ := ih (.termL a.1) _ _ h1 (fun h => by cases h) (by simp only [rX]; omega)
      rw [e3]
      simp only [sX] at m3
      exact Tm.of h3 (by omega)
    | post =>
      simp only [rX] at hf
      rw [exM]
      obtain ⟨a, e1, h1, m1⟩ := ih .atom _ _ hi (fun h => by cases h) (by simp only [rX]; omega)
      rw [e1, Option.bind_some]
      simp only [sX] at m1 ⊢
      obtain ⟨c, e3, h3, m3⟩ := ih (.postL a.1) _ _ h1 (fun h => by cases h) (by simp only [rX]; omega)
      rw [e3]
      simp only [sX] at m3
      exact Tm.of h3 (by omega)
    | sumL a =>
      simp only [rX] at hf
      rw [exM]
      split
      · rename_i hc
        have hp := mm_pos hc.1 hi
        have hn : i + 1 < l.length := by
          rcases hc.2 with h | h <;> exact isM_next W h
        obtain ⟨h1, m1⟩ := on_T (l := l) hc.1 hn
        obtain ⟨c, e2, h2, m2⟩ := ih .term _ _ h1 (fun h => by cases h) (by simp only [rX]; omega)
        rw [e2, Option.bind_some]
        simp only [sX] at m2
        obtain ⟨y, e3, h3, m3⟩ := ih (.sumL _) _ _ h2 (fun h => by cases h) (by simp only [rX]; omega)
        rw [e3]
        simp only [sX] at m3 ⊢
        exact Tm.of h3 (by omega)
      · exact Tm.ret hi (by simp only [sX]; omega)
    | termL a =>
      simp only [rX] at hf
      rw [exM]
      split
      · rename_i hc
        have hp := mm_pos hc.1 hi
        obtain ⟨h1, m1⟩ := on_T (l := l) hc.1 (isM_next W hc.2)
        obtain ⟨c, e2, h2, m2⟩ := ih .post _ _ h1 (fun h => by cases h) (by simp only [rX]; omega)
        rw [e2, Option.bind_some]
        simp only [sX] at m2
        obtain ⟨y, e3, h3, m3⟩ := ih (.termL _) _ _ h2 (fun h => by cases h) (by simp only [rX]; omega)
        rw [e3]
        simp only [sX] at m3 ⊢
        exact Tm.of h3 (by omega)
      · exact Tm.ret hi (by simp only [sX]; omega)
    | postL a =>
      simp only [rX] at hf
      rw [exM]
      split
      · rename_i hc
        have hp := mm_pos hc.1 hi
        have hn : i + 1 < l.length := by
          rcases hc.2 with h | h <;> exact isM_next W h
        obtain ⟨h1, m1⟩ := on_T (l := l) hc.1 hn
        split
        · obtain ⟨h2, m2⟩ := word_T W ⟨19, a.from_, 0, e0, 0⟩ h1
          dsimp only
          obtain ⟨y, e3, h3, m3⟩ := ih (.postL (.one { (wordM l b ⟨19, a.from_, 0, e0, 0⟩ (i + 1)).1 with til := (wordM l b ⟨19, a.from_, 0, e0, 0⟩ (i + 1)).2.1 } a)) _ _ h2 (fun h => by cases h) (by simp only [rX]; omega)
          rw [e3]
          simp only [sX] at m3 ⊢
          exact Tm.of h3 (by omega)
        · obtain ⟨k, e2, h2, m2⟩ := ih (.args true) _ _ h1 (fun h => by cases h) (by simp only [rX]; omega)
          rw [e2, Option.bind_some]
          simp only [sX] at m2
          obtain ⟨h3, m3⟩ := want_T W sParS h2
          dsimp only
          obtain ⟨y, e4, h4, m4⟩ := ih (.postL (.one ⟨20, a.from_, (wantM l k.2.2 k.2.1 sParS).1, e0, 0⟩ (a.app k.1))) _ _ h3 (fun h => by cases h) (by simp only [rX]; omega)
          rw [e4]
          simp only [sX] at m4 ⊢
          exact Tm.of h4 (by omega)
      · exact Tm.ret hi (by simp only [sX]; omega)
    | args first =>
      simp only [rX] at hf
      rw [exM]
      split
      · rename_i hc
        have hp := mm_pos hc.1 hi
        obtain ⟨t, e2, h2, m2⟩ := ih .expr _ _ hi (fun h => by cases h) (by simp only [rX]; omega)
        rw [e2, Option.bind_some]
        simp only [sX] at m2 ⊢
        split
        · exact Tm.ret h2 (by omega)
        · obtain ⟨h3, m3⟩ := want_T W sCom h2
          obtain ⟨y, e4, h4, m4⟩ := ih (.args false) _ _ h3 (fun h => by cases h) (by simp only [rX]; omega)
          rw [e4]
          simp only [sX] at m4
          exact Tm.pre h4 (by omega)
      · exact Tm.ret hi (by simp only [sX]; omega)
    | atom =>
      simp only [rX] at hf
      rw [exM]
      split
      · rename_i hb; exact Tm.ret hi (by simp only [sX]; rw [mm_bad hb]; omega)
      · rename_i hb
        have hg : b < 0 := by omega
        have hp := mm_pos hg hi
        split
        · rename_i hk; have := on_T (l := l) (i := i) hg (kindAt_next W (by omega)); exact Tm.ret this.1 this.2
        · split
          · rename_i hk; have := on_T (l := l) (i := i) hg (kindAt_next W (by omega)); exact Tm.ret this.1 this.2
          · split
            · rename_i hk; have := on_T (l := l) (i := i) hg (kindAt_next W (by omega)); exact Tm.ret this.1 this.2
            · split
              · rename_i hm; have := on_T (l := l) (i := i) hg (isM_next W hm); exact Tm.ret this.1 this.2
              · split
                · rename_i hm
                  obtain ⟨h1, m1⟩ := on_T (l := l) (i := i) hg (isM_next W hm)
                  obtain ⟨x, e2, h2, m2⟩ := ih .expr _ _ h1 (fun h => by cases h) (by simp only [rX]; omega)
                  rw [e2, Option.bind_some]
                  simp only [sX] at m2 ⊢
                  obtain ⟨h3, m3⟩ := want_T W sParS h2
                  exact Tm.ret h3 (by omega)
                · split
                  · rename_i hm
                    obtain ⟨h1, m1⟩ := on_T (l := l) (i := i) hg (isM_next W hm)
                    obtain ⟨x, e2, h2, m2⟩ := ih (.entries true) _ _ h1 (fun h => by cases h) (by simp only [rX]; omega)
                    rw [e2, Option.bind_some]
                    simp only [sX] at m2 ⊢
                    obtain ⟨h3, m3⟩ := want_T W sShut h2
                    exact Tm.ret h3 (by omega)
                  · obtain ⟨h1, m1⟩ := want_T W kFn hi
                    dsimp only
                    obtain ⟨x, e2, h2, m2⟩ := ih .lambda _ _ h1 (fun h => by cases h) (by simp only [rX]; omega)
                    rw [e2, Option.bind_some]
                    simp only [sX] at m2 ⊢
                    exact Tm.ret h2 (by omega)
    | entries first =>
      simp only [rX] at hf
      rw [exM]
      split
      · rename_i hc
        have hp := mm_pos hc.1 hi
        obtain ⟨h1, m1⟩ := word_T W ⟨27, i, 0, e0, 0⟩ hi
        obtain ⟨h2, m2⟩ := want_T W sCol h1
        dsimp only
        obtain ⟨t, e3, h3, m3⟩ := ih .expr _ _ h2 (fun h => by cases h) (by simp only [rX]; omega)
        rw [e3, Option.bind_some]
        simp only [sX] at m3 ⊢
        split
        · exact Tm.ret h3 (by omega)
        · obtain ⟨h4, m4⟩ := want_T W sCom h3
          obtain ⟨y, e5, h5, m5⟩ := ih (.entries false) _ _ h4 (fun h => by cases h) (by simp only [rX]; omega)
          rw [e5]
          simp only [sX] at m5
          exact Tm.pre h5 (by omega)
      · exact Tm.ret hi (by simp only [sX]; omega)
theorem use_T (W : Wf l) {b : Int} {i : Nat} (hb : b < 0) (hm : i + 1 < l.length) : ((useM l b i).2.2 < 0 → (useM l b i).2.1 < l.length) ∧ mm l (useM l b i).2.2 (useM l b i).2.1 ≤ mm l b i - 1 := by
  obtain ⟨h1, m1⟩ := on_T (l := l) hb hm
  obtain ⟨h2, m2⟩ := word_T W ⟨23, i + 1, 0, e0, 0⟩ h1
  obtain ⟨h3, m3⟩ := want_T W sDot h2
  obtain ⟨h4, m4⟩ := word_T W ⟨2, i, 0, e0, 0⟩ h3
  obtain ⟨h5, m5⟩ := want_T W sSem h4
  unfold useM
  dsimp only
  exact ⟨h5, by omega⟩
theorem def_T (W : Wf l) {f : Nat} {b : Int} {i : Nat} (hb : b < 0) (hi : b < 0 → i < l.length) (hf : 20 * mm l b i ≤ f) : Tm l b i 1 (defM l f b i) := by
  have hp := mm_pos hb hi
  obtain ⟨h1, m1⟩ := want_T W kDef hi
  obtain ⟨h2, m2⟩ := word_T W ⟨3, i, 0, e0, 0⟩ h1
  unfold defM
  dsimp only
  obtain ⟨k, e3, h3, m3⟩ := ex_T W f .lambda _ _ h2 (fun h => by cases h) (by simp only [rX]; omega)
  rw [e3, Option.bind_some]
  simp only [sX] at m3
  exact Tm.ret h3 (by omega)
theorem items_T (W : Wf l) : ∀ (f : Nat) (b : Int) (i : Nat), (b < 0 → i < l.length) → 20 * mm l b i + 1 ≤ f → Tm l b i 0 (itemsM l f b i) := by
  intro f
  induction f with
  | zero => intro b i _ h; omega
  | succ f ih =>
    intro b i hi hf
    rw [itemsM]
    split
    · rename_i hc
      have hp := mm_pos hc.1 hi
      split
      · rename_i hm
        obtain ⟨h1, m1⟩ := use_T W hc.1 (isM_next W hm)
        obtain ⟨x, e2, h2, m2⟩ := ih _ _ h1 (by omega)
        rw [e2]
        exact Tm.pre h2 (by omega)
      · obtain ⟨t, e1, h1, m1⟩ := def_T W (f := f) hc.1 hi (by omega)
        rw [e1, Option.bind_some]
        obtain ⟨x, e2, h2, m2⟩ := ih _ _ h1 (by omega)
        rw [e2]
        exact Tm.pre h2 (by omega)
    · exact Tm.ret hi (by omega)
def fuel : Nat := 100000
theorem items_some (W : Wf l) : ∃ r, itemsM l fuel (-1) 0 = some r ∧ (r.2.2 < 0 → r.2.1 < l.length) := by
  have h1 := W.pos
  have h2 := W.le
  obtain ⟨r, e, h, _⟩ := items_T W fuel (-1) 0 (fun _ => h1) (by rw [mm_good (by omega)]; unfold fuel; omega)
  exact ⟨r, e, h⟩
end Ps
end Go.Proofs.YthjflofcgdfekaaGreatDoor
