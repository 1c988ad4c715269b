import Derived.Test.YtiabkkdeonepgaaGreatDoorXD
import Derived.Test.YtiabkkdeonepgaaGreatDoorXE
import Derived.Deep.LoopGhost
namespace Go.Proofs.YtiabkkdeonepgaaGreatDoor
namespace Ps
variable {l : List Tok}
def mm (l : List Tok) (b : Int) (i : Nat) : Nat := if 0 ≤ b then 0 else l.length - i
def Tm (l : List Tok) (b : Int) (i d : Nat) (o : Res) : Prop := ∃ r, o = some r ∧ (r.2.2 < 0 → r.2.1 < l.length) ∧ mm l r.2.2 r.2.1 ≤ mm l b i - d
theorem mm_bad {b : Int} {i : Nat} (h : 0 ≤ b) : mm l b i = 0 := by unfold mm; rw [if_pos h]
theorem mm_good {b : Int} {i : Nat} (h : b < 0) : mm l b i = l.length - i := by unfold mm; rw [if_neg (by omega)]
theorem mm_pos {b : Int} {i : Nat} (h : b < 0) (hi : b < 0 → i < l.length) : 1 ≤ mm l b i := by have := hi h; rw [mm_good h]; omega
theorem want_T (W : Wf l) {b : Int} {i : Nat} (x : List UInt8) (_hi : b < 0 → i < l.length) : ((wantM l b i x).2 < 0 → (wantM l b i x).1 < l.length) ∧ mm l (wantM l b i x).2 (wantM l b i x).1 ≤ mm l b i - 1 := by
  by_cases hb : 0 ≤ b
  · rw [wantM_bad hb]; dsimp only; rw [mm_bad hb]; exact ⟨fun h => absurd h (by omega), by omega⟩
  · unfold wantM
    rw [if_neg hb]
    by_cases hm : isM l i x = true
    · rw [if_pos hm]
      have := isM_next W hm
      dsimp only
      rw [mm_good (by omega), mm_good (by omega)]
      exact ⟨fun _ => this, by omega⟩
    · rw [if_neg hm]; dsimp only; rw [mm_bad (b := (i : Int)) (by omega)]; exact ⟨fun h => absurd h (by omega), by omega⟩
theorem word_T (W : Wf l) {b : Int} {i : Nat} (h : Hd) (_hi : b < 0 → i < l.length) : ((wordM l b h i).2.2 < 0 → (wordM l b h i).2.1 < l.length) ∧ mm l (wordM l b h i).2.2 (wordM l b h i).2.1 ≤ mm l b i - 1 := by
  by_cases hb : 0 ≤ b
  · rw [wordM_bad hb]; dsimp only; rw [mm_bad hb]; exact ⟨fun h => absurd h (by omega), by omega⟩
  · unfold wordM
    rw [if_neg hb]
    by_cases hm : kindAt l i = 1
    · rw [if_pos hm]
      have := kindAt_next W (i := i) (by omega)
      dsimp only
      rw [mm_good (by omega), mm_good (by omega)]
      exact ⟨fun _ => this, by omega⟩
    · rw [if_neg hm]; dsimp only; rw [mm_bad (b := (i : Int)) (by omega)]; exact ⟨fun h => absurd h (by omega), by omega⟩
theorem on_T {b : Int} {i : Nat} (hb : b < 0) (h : i + 1 < l.length) : (b < 0 → i + 1 < l.length) ∧ mm l b (i + 1) ≤ mm l b i - 1 := by
  rw [mm_good hb, mm_good hb]; exact ⟨fun _ => h, by omega⟩
theorem Tm.ret {b b' : Int} {i i' d : Nat} {k : Fo} (h : b' < 0 → i' < l.length) (hm : mm l b' i' ≤ mm l b i - d) : Tm l b i d (some (k, i', b')) := ⟨_, rfl, h, hm⟩
theorem Tm.of {b : Int} {i d : Nat} {r : Fo × Nat × Int} (h : r.2.2 < 0 → r.2.1 < l.length) (hm : mm l r.2.2 r.2.1 ≤ mm l b i - d) : Tm l b i d (some r) := ⟨r, rfl, h, hm⟩
theorem Tm.pre {b : Int} {i d : Nat} {k : Fo} {r : Fo × Nat × Int} (h : r.2.2 < 0 → r.2.1 < l.length) (hm : mm l r.2.2 r.2.1 ≤ mm l b i - d) : Tm l b i d (Res.pre k (some r)) := ⟨(k.app r.1, r.2), rfl, h, hm⟩
def rT : TT → Nat
  | .kind => 1
  | _ => 2
def sT : TT → Nat
  | .kind => 1
  | _ => 0
theorem ty_T (W : Wf l) : ∀ (f : Nat) (t : TT) (b : Int) (i : Nat), (b < 0 → i < l.length) → 20 * mm l b i + rT t ≤ f → Tm l b i (sT t) (tyM l f t b i) := by
  intro f
  induction f with
  | zero => intro t b i _ h; cases t <;> simp [rT] at h
  | succ f ih =>
    intro t b i hi hf
    by_cases hb : 0 ≤ b
    · have hb' : ¬ b < 0 := by omega
      have h0 : mm l b i = 0 := mm_bad hb
      cases t with
      | kind => rw [tyM, if_pos hb]; exact Tm.ret hi (by rw [h0]; omega)
      | recL first => rw [tyM, if_neg (fun hh => hb' hh.1)]; exact Tm.ret hi (by rw [h0]; omega)
      | fnL first => rw [tyM, if_neg (fun hh => hb' hh.1)]; exact Tm.ret hi (by rw [h0]; omega)
    · have hg : b < 0 := by omega
      have hp := mm_pos hg hi
      cases t with
      | kind =>
        simp only [rT] at hf
        rw [tyM, if_neg hb]
        split
        · rename_i hm; have := on_T (l := l) (i := i) hg (isM_next W hm); exact Tm.ret this.1 this.2
        · split
          · rename_i hm; have := on_T (l := l) (i := i) hg (isM_next W hm); exact Tm.ret this.1 this.2
          · split
            · rename_i hm; have := on_T (l := l) (i := i) hg (isM_next W hm); exact Tm.ret this.1 this.2
            · split
              · rename_i hm
                obtain ⟨h1, m1⟩ := on_T (l := l) (i := i) hg (isM_next W hm)
                obtain ⟨x, ex, hx, mx⟩ := ih (.recL true) b (i + 1) h1 (by simp only [rT]; omega)
                rw [ex, Option.bind_some]
                dsimp only
                obtain ⟨h2, m2⟩ := want_T W sShut hx
                simp only [sT] at mx ⊢
                exact Tm.ret h2 (by omega)
              · obtain ⟨h1, m1⟩ := want_T W kFn hi
                obtain ⟨h2, m2⟩ := want_T W sParO h1
                obtain ⟨x, ex, hx, mx⟩ := ih (.fnL true) _ _ h2 (by simp only [rT]; omega)
                dsimp only
                rw [ex, Option.bind_some]
                obtain ⟨h3, m3⟩ := want_T W sParS hx
                obtain ⟨h4, m4⟩ := want_T W sCol h3
                simp only [sT] at mx ⊢
                obtain ⟨t, et, ht, mt⟩ := ih .kind _ _ h4 (by simp only [rT]; omega)
                rw [et, Option.bind_some]
                simp only [sT] at mt
                exact Tm.ret ht (by omega)
      | recL first =>
        simp only [rT] at hf
        rw [tyM]
        split
        · obtain ⟨h1, m1⟩ := word_T W ⟨33, i, 0, e0, 0⟩ hi
          obtain ⟨h2, m2⟩ := want_T W sCol h1
          dsimp only
          obtain ⟨t, et, ht, mt⟩ := ih .kind _ _ h2 (by simp only [rT]; omega)
          rw [et, Option.bind_some]
          simp only [sT] at mt ⊢
          split
          · exact Tm.ret ht (by omega)
          · obtain ⟨h3, m3⟩ := want_T W sCom ht
            obtain ⟨x, ex, hx, mx⟩ := ih (.recL false) _ _ h3 (by simp only [rT]; omega)
            rw [ex]
            simp only [sT] at mx
            exact Tm.pre hx (by omega)
        · exact Tm.ret hi (by simp only [sT]; omega)
      | fnL first =>
        simp only [rT] at hf
        rw [tyM]
        split
        · obtain ⟨t, et, ht, mt⟩ := ih .kind _ _ hi (by simp only [rT]; omega)
          rw [et, Option.bind_some]
          simp only [sT] at mt ⊢
          split
          · exact Tm.ret ht (by omega)
          · obtain ⟨h3, m3⟩ := want_T W sCom ht
            obtain ⟨x, ex, hx, mx⟩ := ih (.fnL false) _ _ h3 (by simp only [rT]; omega)
            rw [ex]
            simp only [sT] at mx
            exact Tm.pre hx (by omega)
        · exact Tm.ret hi (by simp only [sT]; omega)
theorem typed_T (W : Wf l) {f : Nat} {b : Int} {i : Nat} (hi : b < 0 → i < l.length) (hf : 20 * mm l b i + 1 ≤ f) : Tm l b i 0 (typedM l f b i) := by
  unfold typedM
  by_cases hc : 0 ≤ b ∨ ¬ isM l i sCol = true
  · rw [if_pos hc]; exact Tm.ret hi (by omega)
  · rw [if_neg hc]
    have hg : b < 0 := by
      by_cases h : 0 ≤ b
      · exact absurd (.inl h) hc
      · omega
    have hm : isM l i sCol = true := by
      cases h : isM l i sCol with
      | true => rfl
      | false => exact absurd (.inr (by rw [h]; simp)) hc
    obtain ⟨h1, m1⟩ := on_T (l := l) (i := i) hg (isM_next W hm)
    obtain ⟨x, ex, hx, mx⟩ := ty_T W f .kind b (i + 1) h1 (by simp only [rT]; omega)
    rw [ex]
    simp only [sT] at mx
    exact Tm.of hx (by omega)
theorem par_T (W : Wf l) : ∀ (f : Nat) (first : Bool) (b : Int) (i : Nat), (b < 0 → i < l.length) → 20 * mm l b i + 2 ≤ f → Tm l b i 0 (parL l f first b i) := by
  intro f
  induction f with
  | zero => intro first b i _ h; omega
  | succ f ih =>
    intro first b i hi hf
    rw [parL]
    split
    · rename_i hc
      have hp := mm_pos hc.1 hi
      obtain ⟨h1, m1⟩ := word_T W ⟨5, i, 0, e0, 0⟩ hi
      dsimp only
      obtain ⟨t, et, ht, mt⟩ := typed_T W (f := f) h1 (by omega)
      rw [et, Option.bind_some]
      split
      · exact Tm.ret ht (by omega)
      · obtain ⟨h3, m3⟩ := want_T W sCom ht
        obtain ⟨x, ex, hx, mx⟩ := ih false _ _ h3 (by omega)
        rw [ex]
        exact Tm.pre hx (by omega)
    · exact Tm.ret hi (by omega)
theorem params_T (W : Wf l) {f : Nat} {b : Int} {i : Nat} (hi : b < 0 → i < l.length) (hf : 20 * mm l b i + 2 ≤ f) : Tm l b i 1 (paramsM l f b i) := by
  unfold paramsM
  obtain ⟨h1, m1⟩ := want_T W sParO hi
  dsimp only
  obtain ⟨x, ex, hx, mx⟩ := par_T W f true _ _ h1 (by omega)
  rw [ex, Option.bind_some]
  obtain ⟨h2, m2⟩ := want_T W sParS hx
  exact Tm.ret h2 (by omega)
def rX : XT → Nat
  | .lambda => 9
  | .block => 8
  | .stmts => 7
  | .stmt => 6
  | .expr => 5
  | .sum => 4
  | .sumL _ => 1
  | .term => 3
  | .termL _ => 1
  | .post => 2
  | .postL _ => 1
  | .args _ => 6
  | .atom => 1
  | .entries _ => 2
def sX : XT → Nat
  | .lambda | .block | .stmt | .expr | .sum | .term | .post | .atom => 1
  | _ => 0
theorem ex_T (W : Wf l) : ∀ (f : Nat) (t : XT) (b : Int) (i : Nat), (b < 0 → i < l.length) → (t = .stmt → b < 0) → 20 * mm l b i + rX t ≤ f → Tm l b i (sX t) (exM l f t b i) := by
  intro f
  induction f with
  | zero => intro t b i _ _ h; cases t <;> simp [rX] at h
  | succ f ih =>
    intro t b i hi hst hf
    cases t with
    | lambda =>
      simp only [rX] at hf
      rw [exM]
      obtain ⟨p, e1, h1, m1⟩ := params_T W (f := f) hi (by omega)
      rw [e1, Option.bind_some]
      obtain ⟨t, e2, h2, m2⟩ := typed_T W (f := f) h1 (by omega)
      rw [e2, Option.bind_some]
      obtain ⟨k, e3, h3, m3⟩ := ih .block _ _ h2 (fun h => by cases h) (by simp only [rX]; omega)
      rw [e3, Option.bind_some]
      simp only [sX] at m3 ⊢
      exact Tm.ret h3 (by omega)
    | block =>
      simp only [rX] at hf
      rw [exM]
      obtain ⟨h1, m1⟩ := want_T W sOpen hi
      dsimp only
      obtain ⟨x, e2, h2, m2⟩ := ih .stmts _ _ h1 (fun h => by cases h) (by simp only [rX]; omega)
      rw [e2, Option.bind_some]
      obtain ⟨h3, m3⟩ := want_T W sShut h2
      simp only [sX] at m2 ⊢
      exact Tm.ret h3 (by omega)
    | stmts =>
      simp only [rX] at hf
      rw [exM]
      split
      · rename_i hc
        have hp := mm_pos hc.1 hi
        obtain ⟨x, e2, h2, m2⟩ := ih .stmt _ _ hi (fun _ => hc.1) (by simp only [rX]; omega)
        rw [e2, Option.bind_some]
        simp only [sX] at m2
        obtain ⟨y, e3, h3, m3⟩ := ih .stmts _ _ h2 (fun h => by cases h) (by simp only [rX]; omega)
        rw [e3]
        simp only [sX] at m3 ⊢
        exact Tm.pre h3 (by omega)
      · exact Tm.ret hi (by simp only [sX]; omega)
    | stmt =>
      have hg := hst rfl
      have hp := mm_pos hg hi
      simp only [rX] at hf
      rw [exM]
      split
      · rename_i hm
        obtain ⟨h1, m1⟩ := on_T (l := l) (i := i) hg (isM_next W hm)
        obtain ⟨c, e2, h2, m2⟩ := ih .expr _ _ h1 (fun h => by cases h) (by simp only [rX]; omega)
        rw [e2, Option.bind_some]
        simp only [sX] at m2
        obtain ⟨k, e3, h3, m3⟩ := ih .block _ _ h2 (fun h => by cases h) (by simp only [rX]; omega)
        rw [e3, Option.bind_some]
        simp only [sX] at m3 ⊢
        split
        · rename_i hc
          obtain ⟨h4, m4⟩ := on_T (l := l) (i := k.2.1) hc.1 (isM_next W hc.2)
          obtain ⟨o, e5, h5, m5⟩ := ih .block _ _ h4 (fun h => by cases h) (by simp only [rX]; omega)
          rw [e5, Option.bind_some]
          simp only [sX] at m5
          exact Tm.ret h5 (by omega)
        · exact Tm.ret h3 (by omega)
      · split
        · rename_i hm
          obtain ⟨h1, m1⟩ := on_T (l := l) (i := i) hg (isM_next W hm)
          obtain ⟨c, e2, h2, m2⟩ := ih .expr _ _ h1 (fun h => by cases h) (by simp only [rX]; omega)
          rw [e2, Option.bind_some]
          simp only [sX] at m2
          obtain ⟨k, e3, h3, m3⟩ := ih .block _ _ h2 (fun h => by cases h) (by simp only [rX]; omega)
          rw [e3, Option.bind_some]
          simp only [sX] at m3 ⊢
          exact Tm.ret h3 (by omega)
        · split
          · rename_i hm
            obtain ⟨h1, m1⟩ := on_T (l := l) (i := i) hg (isM_next W hm)
            obtain ⟨h2, m2⟩ := word_T W ⟨7, i, 0, e0, 0⟩ h1
            dsimp only
            obtain ⟨t, e3, h3, m3⟩ := typed_T W (f := f) h2 (by omega)
            rw [e3, Option.bind_some]
            obtain ⟨h4, m4⟩ := want_T W sEq h3
            obtain ⟨v, e5, h5, m5⟩ := ih .expr _ _ h4 (fun h => by cases h) (by simp only [rX]; omega)
            rw [e5, Option.bind_some]
            obtain ⟨h6, m6⟩ := want_T W sSem h5
            simp only [sX] at m5 ⊢
            exact Tm.ret h6 (by omega)
          · dsimp only
            obtain ⟨x, hx, hx1, hx2⟩ : ∃ x : Hd × Nat × Int, (if isM l i kPrint = true then ((⟨11, i, 0, e0, 0⟩ : Hd), i + 1, b) else if isM l i kReturn = true then (⟨12, i, 0, e0, 0⟩, i + 1, b) else if kindAt l i = 1 ∧ isM l (i + 1) sEq = true then ((wordM l b ⟨8, i, 0, e0, 0⟩ i).1, (wordM l b ⟨8, i, 0, e0, 0⟩ i).2.1 + 1, (wordM l b ⟨8, i, 0, e0, 0⟩ i).2.2) else (⟨13, i, 0, e0, 0⟩, i, b)) = x ∧ (x.2.2 < 0 → x.2.1 < l.length) ∧ mm l x.2.2 x.2.1 ≤ mm l b i := by
              split
              · rename_i hm
                obtain ⟨h1, m1⟩ := on_T (l := l) (i := i) hg (isM_next W hm)
                exact ⟨_, rfl, h1, by dsimp only; omega⟩
              · split
                · rename_i hm
                  obtain ⟨h1, m1⟩ := on_T (l := l) (i := i) hg (isM_next W hm)
                  exact ⟨_, rfl, h1, by dsimp only; omega⟩
                · split
                  · rename_i hm
                    have hw : wordM l b ⟨8, i, 0, e0, 0⟩ i = (⟨8, i, 0, textAt l i, i⟩, i + 1, b) := by unfold wordM; rw [if_neg (by omega), if_pos hm.1]
                    rw [hw]
                    have h2 := isM_next W hm.2
                    refine ⟨_, rfl, fun _ => h2, ?_⟩
                    dsimp only
                    rw [mm_good hg, mm_good hg]
                    omega
                  · exact ⟨_, rfl, hi, Nat.le_refl _⟩
            rw [hx]
            obtain ⟨v, e5, h5, m5⟩ := ih .expr _ _ hx1 (fun h => by cases h) (by simp only [rX]; omega)
            rw [e5, Option.bind_some]
            obtain ⟨h6, m6⟩ := want_T W sSem h5
            simp only [sX] at m5 ⊢
            exact Tm.ret h6 (by omega)
    | expr =>
      simp only [rX] at hf
      rw [exM]
      obtain ⟨a, e1, h1, m1⟩ := ih .sum _ _ hi (fun h => by cases h) (by simp only [rX]; omega)
      rw [e1, Option.bind_some]
      simp only [sX] at m1 ⊢
      split
      · exact Tm.of h1 m1
      · rename_i hc
        have hg : a.2.2 < 0 := by
          by_cases h : 0 ≤ a.2.2
          · exact absurd (.inl h) hc
          · omega
        have hn : a.2.1 + 1 < l.length := by
          cases h1 : isM l a.2.1 sLess with
          | true => exact isM_next W h1
          | false =>
            cases h2 : isM l a.2.1 sEqEq with
            | true => exact isM_next W h2
            | false => exact absurd (.inr ⟨by rw [h1]; simp, by rw [h2]; simp⟩) hc
        obtain ⟨h2, m2⟩ := on_T (l := l) hg hn
        have hp := mm_pos hg h1
        obtain ⟨c, e3, h3, m3⟩ := ih .sum _ _ h2 (fun h => by cases h) (by simp only [rX]; omega)
        rw [e3, Option.bind_some]
        simp only [sX] at m3
        exact Tm.ret h3 (by omega)
    | sum =>
      simp only [rX] at hf
      rw [exM]
      obtain ⟨a, e1, h1, m1⟩ := ih .term _ _ hi (fun h => by cases h) (by simp only [rX]; omega)
      rw [e1, Option.bind_some]
      simp only [sX] at m1 ⊢
      obtain ⟨c, e3, h3, m3⟩ := ih (.sumL a.1) _ _ h1 (fun h => by cases h) (by simp only [rX]; omega)
      rw [e3]
      simp only [sX] at m3
      exact Tm.of h3 (by omega)
    | term =>
      simp only [rX] at hf
      rw [exM]
      obtain ⟨a, e1, h1, m1⟩ := ih .post _ _ hi (fun h => by cases h) (by simp only [rX]; omega)
      rw [e1, Option.bind_some]
      simp only [sX] at m1 ⊢
      obtain ⟨c, e3, h3, m3⟩ := ih (.termL a.1) _ _ h1 (fun h => by cases h) (by simp only [rX]; omega)
      rw [e3]
      simp only [sX] at m3
      exact Tm.of h3 (by omega)
    | post =>
      simp only [rX] at hf
      rw [exM]
      obtain ⟨a, e1, h1, m1⟩ := ih .atom _ _ hi (fun h => by cases h) (by simp only [rX]; omega)
      rw [e1, Option.bind_some]
      simp only [sX] at m1 ⊢
      obtain ⟨c, e3, h3, m3⟩ := ih (.postL a.1) _ _ h1 (fun h => by cases h) (by simp only [rX]; omega)
      rw [e3]
      simp only [sX] at m3
      exact Tm.of h3 (by omega)
    | sumL a =>
      simp only [rX] at hf
      rw [exM]
      split
      · rename_i hc
        have hp := mm_pos hc.1 hi
        have hn : i + 1 < l.length := by
          rcases hc.2 with h | h <;> exact isM_next W h
        obtain ⟨h1, m1⟩ := on_T (l := l) hc.1 hn
        obtain ⟨c, e2, h2, m2⟩ := ih .term _ _ h1 (fun h => by cases h) (by simp only [rX]; omega)
        rw [e2, Option.bind_some]
        simp only [sX] at m2
        obtain ⟨y, e3, h3, m3⟩ := ih (.sumL _) _ _ h2 (fun h => by cases h) (by simp only [rX]; omega)
        rw [e3]
        simp only [sX] at m3 ⊢
        exact Tm.of h3 (by omega)
      · exact Tm.ret hi (by simp only [sX]; omega)
    | termL a =>
      simp only [rX] at hf
      rw [exM]
      split
      · rename_i hc
        have hp := mm_pos hc.1 hi
        obtain ⟨h1, m1⟩ := on_T (l := l) hc.1 (isM_next W hc.2)
        obtain ⟨c, e2, h2, m2⟩ := ih .post _ _ h1 (fun h => by cases h) (by simp only [rX]; omega)
        rw [e2, Option.bind_some]
        simp only [sX] at m2
        obtain ⟨y, e3, h3, m3⟩ := ih (.termL _) _ _ h2 (fun h => by cases h) (by simp only [rX]; omega)
        rw [e3]
        simp only [sX] at m3 ⊢
        exact Tm.of h3 (by omega)
      · exact Tm.ret hi (by simp only [sX]; omega)
    | postL a =>
      simp only [rX] at hf
      rw [exM]
      split
      · rename_i hc
        have hp := mm_pos hc.1 hi
        have hn : i + 1 < l.length := by
          rcases hc.2 with h | h <;> exact isM_next W h
        obtain ⟨h1, m1⟩ := on_T (l := l) hc.1 hn
        split
        · obtain ⟨h2, m2⟩ := word_T W ⟨19, a.from_, 0, e0, 0⟩ h1
          dsimp only
          obtain ⟨y, e3, h3, m3⟩ := ih (.postL (.one { (wordM l b ⟨19, a.from_, 0, e0, 0⟩ (i + 1)).1 with til := (wordM l b ⟨19, a.from_, 0, e0, 0⟩ (i + 1)).2.1 } a)) _ _ h2 (fun h => by cases h) (by simp only [rX]; omega)
          rw [e3]
          simp only [sX] at m3 ⊢
          exact Tm.of h3 (by omega)
        · obtain ⟨k, e2, h2, m2⟩ := ih (.args true) _ _ h1 (fun h => by cases h) (by simp only [rX]; omega)
          rw [e2, Option.bind_some]
          simp only [sX] at m2
          obtain ⟨h3, m3⟩ := want_T W sParS h2
          dsimp only
          obtain ⟨y, e4, h4, m4⟩ := ih (.postL (.one ⟨20, a.from_, (wantM l k.2.2 k.2.1 sParS).1, e0, 0⟩ (a.app k.1))) _ _ h3 (fun h => by cases h) (by simp only [rX]; omega)
          rw [e4]
          simp only [sX] at m4 ⊢
          exact Tm.of h4 (by omega)
      · exact Tm.ret hi (by simp only [sX]; omega)
    | args first =>
      simp only [rX] at hf
      rw [exM]
      split
      · rename_i hc
        have hp := mm_pos hc.1 hi
        obtain ⟨t, e2, h2, m2⟩ := ih .expr _ _ hi (fun h => by cases h) (by simp only [rX]; omega)
        rw [e2, Option.bind_some]
        simp only [sX] at m2 ⊢
        split
        · exact Tm.ret h2 (by omega)
        · obtain ⟨h3, m3⟩ := want_T W sCom h2
          obtain ⟨y, e4, h4, m4⟩ := ih (.args false) _ _ h3 (fun h => by cases h) (by simp only [rX]; omega)
          rw [e4]
          simp only [sX] at m4
          exact Tm.pre h4 (by omega)
      · exact Tm.ret hi (by simp only [sX]; omega)
    | atom =>
      simp only [rX] at hf
      rw [exM]
      split
      · rename_i hb; exact Tm.ret hi (by simp only [sX]; rw [mm_bad hb]; omega)
      · rename_i hb
        have hg : b < 0 := by omega
        have hp := mm_pos hg hi
        split
        · rename_i hk; have := on_T (l := l) (i := i) hg (kindAt_next W (by omega)); exact Tm.ret this.1 this.2
        · split
          · rename_i hk; have := on_T (l := l) (i := i) hg (kindAt_next W (by omega)); exact Tm.ret this.1 this.2
          · split
            · rename_i hk; have := on_T (l := l) (i := i) hg (kindAt_next W (by omega)); exact Tm.ret this.1 this.2
            · split
              · rename_i hm; have := on_T (l := l) (i := i) hg (isM_next W hm); exact Tm.ret this.1 this.2
              · split
                · rename_i hm
                  obtain ⟨h1, m1⟩ := on_T (l := l) (i := i) hg (isM_next W hm)
                  obtain ⟨x, e2, h2, m2⟩ := ih .expr _ _ h1 (fun h => by cases h) (by simp only [rX]; omega)
                  rw [e2, Option.bind_some]
                  simp only [sX] at m2 ⊢
                  obtain ⟨h3, m3⟩ := want_T W sParS h2
                  exact Tm.ret h3 (by omega)
                · split
                  · rename_i hm
                    obtain ⟨h1, m1⟩ := on_T (l := l) (i := i) hg (isM_next W hm)
                    obtain ⟨x, e2, h2, m2⟩ := ih (.entries true) _ _ h1 (fun h => by cases h) (by simp only [rX]; omega)
                    rw [e2, Option.bind_some]
                    simp only [sX] at m2 ⊢
                    obtain ⟨h3, m3⟩ := want_T W sShut h2
                    exact Tm.ret h3 (by omega)
                  · obtain ⟨h1, m1⟩ := want_T W kFn hi
                    dsimp only
                    obtain ⟨x, e2, h2, m2⟩ := ih .lambda _ _ h1 (fun h => by cases h) (by simp only [rX]; omega)
                    rw [e2, Option.bind_some]
                    simp only [sX] at m2 ⊢
                    exact Tm.ret h2 (by omega)
    | entries first =>
      simp only [rX] at hf
      rw [exM]
      split
      · rename_i hc
        have hp := mm_pos hc.1 hi
        obtain ⟨h1, m1⟩ := word_T W ⟨27, i, 0, e0, 0⟩ hi
        obtain ⟨h2, m2⟩ := want_T W sCol h1
        dsimp only
        obtain ⟨t, e3, h3, m3⟩ := ih .expr _ _ h2 (fun h => by cases h) (by simp only [rX]; omega)
        rw [e3, Option.bind_some]
        simp only [sX] at m3 ⊢
        split
        · exact Tm.ret h3 (by omega)
        · obtain ⟨h4, m4⟩ := want_T W sCom h3
          obtain ⟨y, e5, h5, m5⟩ := ih (.entries false) _ _ h4 (fun h => by cases h) (by simp only [rX]; omega)
          rw [e5]
          simp only [sX] at m5
          exact Tm.pre h5 (by omega)
      · exact Tm.ret hi (by simp only [sX]; omega)
theorem use_T (W : Wf l) {b : Int} {i : Nat} (hb : b < 0) (hm : i + 1 < l.length) : ((useM l b i).2.2 < 0 → (useM l b i).2.1 < l.length) ∧ mm l (useM l b i).2.2 (useM l b i).2.1 ≤ mm l b i - 1 := by
  obtain ⟨h1, m1⟩ := on_T (l := l) hb hm
  obtain ⟨h2, m2⟩ := word_T W ⟨23, i + 1, 0, e0, 0⟩ h1
  obtain ⟨h3, m3⟩ := want_T W sDot h2
  obtain ⟨h4, m4⟩ := word_T W ⟨2, i, 0, e0, 0⟩ h3
  obtain ⟨h5, m5⟩ := want_T W sSem h4
  unfold useM
  dsimp only
  exact ⟨h5, by omega⟩
theorem def_T (W : Wf l) {f : Nat} {b : Int} {i : Nat} (hb : b < 0) (hi : b < 0 → i < l.length) (hf : 20 * mm l b i ≤ f) : Tm l b i 1 (defM l f b i) := by
  have hp := mm_pos hb hi
  obtain ⟨h1, m1⟩ := want_T W kDef hi
  obtain ⟨h2, m2⟩ := word_T W ⟨3, i, 0, e0, 0⟩ h1
  unfold defM
  dsimp only
  obtain ⟨k, e3, h3, m3⟩ := ex_T W f .lambda _ _ h2 (fun h => by cases h) (by simp only [rX]; omega)
  rw [e3, Option.bind_some]
  simp only [sX] at m3
  exact Tm.ret h3 (by omega)
theorem items_T (W : Wf l) : ∀ (f : Nat) (b : Int) (i : Nat), (b < 0 → i < l.length) → 20 * mm l b i + 1 ≤ f → Tm l b i 0 (itemsM l f b i) := by
  intro f
  induction f with
  | zero => intro b i _ h; omega
  | succ f ih =>
    intro b i hi hf
    rw [itemsM]
    split
    · rename_i hc
      have hp := mm_pos hc.1 hi
      split
      · rename_i hm
        obtain ⟨h1, m1⟩ := use_T W hc.1 (isM_next W hm)
        obtain ⟨x, e2, h2, m2⟩ := ih _ _ h1 (by omega)
        rw [e2]
        exact Tm.pre h2 (by omega)
      · obtain ⟨t, e1, h1, m1⟩ := def_T W (f := f) hc.1 hi (by omega)
        rw [e1, Option.bind_some]
        obtain ⟨x, e2, h2, m2⟩ := ih _ _ h1 (by omega)
        rw [e2]
        exact Tm.pre h2 (by omega)
    · exact Tm.ret hi (by omega)
def fuel : Nat := 100000
theorem items_some (W : Wf l) : ∃ r, itemsM l fuel (-1) 0 = some r ∧ (r.2.2 < 0 → r.2.1 < l.length) := by
  have h1 := W.pos
  have h2 := W.le
  obtain ⟨r, e, h, _⟩ := items_T W fuel (-1) 0 (fun _ => h1) (by rw [mm_good (by omega)]; unfold fuel; omega)
  exact ⟨r, e, h⟩
end Ps
end Go.Proofs.YtiabkkdeonepgaaGreatDoor
namespace Go.Proofs.YtiabkkdeonepgaaGreatDoor
namespace Ps
variable {l : List Tok}
def Fo.deep : Fo → Nat
  | .nil => 0
  | .cons _ k r => max (1 + k.deep) r.deep
theorem Fo.deep_one (h : Hd) (k : Fo) : (Fo.one h k).deep = 1 + k.deep := by simp [Fo.one, Fo.deep]
theorem Fo.deep_app : ∀ a b : Fo, (a.app b).deep = max a.deep b.deep
  | .nil, b => by simp [Fo.app, Fo.deep]
  | .cons h k r, b => by rw [Fo.app, Fo.deep, Fo.deep, Fo.deep_app r]; omega
theorem Fo.deep_zero : Fo.zero.deep = 1 := rfl
theorem ty_deep : ∀ (f : Nat) (t : TT) (b : Int) (i : Nat) (r : Fo × Nat × Int), tyM l f t b i = some r → r.1.deep ≤ 2 * f := by
  intro f
  induction f with
  | zero => intro t b i r h; rw [tyM] at h; cases h
  | succ f ih =>
    intro t b i r h
    cases t with
    | kind =>
      rw [tyM] at h
      split at h
      · injection h with h; rw [← h]; simp only [Fo.deep_zero]; omega
      · split at h
        · injection h with h; rw [← h]; simp only [Fo.deep_one, Fo.deep]; omega
        · split at h
          · injection h with h; rw [← h]; simp only [Fo.deep_one, Fo.deep]; omega
          · split at h
            · injection h with h; rw [← h]; simp only [Fo.deep_one, Fo.deep]; omega
            · split at h
              · obtain ⟨x, hx, h⟩ := Option.bind_eq_some_iff.1 h
                have := ih _ _ _ _ hx
                injection h with h; rw [← h]; simp only [Fo.deep_one]; omega
              · obtain ⟨x, hx, h⟩ := Option.bind_eq_some_iff.1 h
                obtain ⟨t, ht, h⟩ := Option.bind_eq_some_iff.1 h
                have := ih _ _ _ _ hx
                have := ih _ _ _ _ ht
                injection h with h; rw [← h]; simp only [Fo.deep_one, Fo.deep_app]; omega
    | recL first =>
      rw [tyM] at h
      split at h
      · obtain ⟨t, ht, h⟩ := Option.bind_eq_some_iff.1 h
        have := ih _ _ _ _ ht
        split at h
        · injection h with h; rw [← h]; simp only [Fo.deep_one]; omega
        · obtain ⟨x, hx, h⟩ := Option.map_eq_some_iff.1 h
          have := ih _ _ _ _ hx
          rw [← h]; simp only [Fo.deep_one, Fo.deep_app]; omega
      · injection h with h; rw [← h]; simp only [Fo.deep]; omega
    | fnL first =>
      rw [tyM] at h
      split at h
      · obtain ⟨t, ht, h⟩ := Option.bind_eq_some_iff.1 h
        have := ih _ _ _ _ ht
        split at h
        · injection h with h; rw [← h]; dsimp only; omega
        · obtain ⟨x, hx, h⟩ := Option.map_eq_some_iff.1 h
          have := ih _ _ _ _ hx
          rw [← h]; simp only [Fo.deep_app]; omega
      · injection h with h; rw [← h]; simp only [Fo.deep]; omega
theorem typed_deep {f : Nat} {b : Int} {i : Nat} {r : Fo × Nat × Int} (h : typedM l f b i = some r) : r.1.deep ≤ 2 * f + 1 := by
  unfold typedM at h
  split at h
  · injection h with h; rw [← h]; simp only [Fo.deep_zero]; omega
  · have := ty_deep _ _ _ _ _ h; omega
theorem par_deep : ∀ (f : Nat) (first : Bool) (b : Int) (i : Nat) (r : Fo × Nat × Int), parL l f first b i = some r → r.1.deep ≤ 2 * f := by
  intro f
  induction f with
  | zero => intro first b i r h; rw [parL] at h; cases h
  | succ f ih =>
    intro first b i r h
    rw [parL] at h
    split at h
    · obtain ⟨t, ht, h⟩ := Option.bind_eq_some_iff.1 h
      have := typed_deep ht
      split at h
      · injection h with h; rw [← h]; simp only [Fo.deep_one]; omega
      · obtain ⟨x, hx, h⟩ := Option.map_eq_some_iff.1 h
        have := ih _ _ _ _ hx
        rw [← h]; simp only [Fo.deep_one, Fo.deep_app]; omega
    · injection h with h; rw [← h]; simp only [Fo.deep]; omega
theorem params_deep {f : Nat} {b : Int} {i : Nat} {r : Fo × Nat × Int} (h : paramsM l f b i = some r) : r.1.deep ≤ 2 * f + 1 := by
  unfold paramsM at h
  obtain ⟨x, hx, h⟩ := Option.bind_eq_some_iff.1 h
  have := par_deep _ _ _ _ _ hx
  injection h with h; rw [← h]; simp only [Fo.deep_one]; omega
def dB : Nat → Nat
  | 0 => 0
  | f + 1 => dB f + f + 2
theorem dB_ge : ∀ f, 2 * f ≤ dB f
  | 0 => Nat.le_refl _
  | f + 1 => by have := dB_ge f; rw [dB]; omega
def dA (f : Nat) : XT → Nat
  | .sumL a | .termL a | .postL a => max a.deep (dB f) + f
  | _ => dB f
theorem ex_deep : ∀ (f : Nat) (t : XT) (b : Int) (i : Nat) (r : Fo × Nat × Int), exM l f t b i = some r → r.1.deep ≤ dA f t := by
  intro f
  induction f with
  | zero => intro t b i r h; rw [exM] at h; cases h
  | succ f ih =>
    intro t b i r h
    have hg := dB_ge f
    cases t with
    | lambda =>
      rw [exM] at h
      obtain ⟨p, h1, h⟩ := Option.bind_eq_some_iff.1 h
      obtain ⟨t, h2, h⟩ := Option.bind_eq_some_iff.1 h
      obtain ⟨k, h3, h⟩ := Option.bind_eq_some_iff.1 h
      have := params_deep h1
      have := typed_deep h2
      have := ih _ _ _ _ h3
      injection h with h; rw [← h]; simp only [Fo.deep_app, dA, dB] at *; omega
    | block =>
      rw [exM] at h
      obtain ⟨x, h1, h⟩ := Option.bind_eq_some_iff.1 h
      have := ih _ _ _ _ h1
      injection h with h; rw [← h]; simp only [Fo.deep_one, dA, dB] at *; omega
    | stmts =>
      rw [exM] at h
      split at h
      · obtain ⟨x, h1, h⟩ := Option.bind_eq_some_iff.1 h
        obtain ⟨y, h2, h⟩ := Option.map_eq_some_iff.1 h
        have := ih _ _ _ _ h1
        have := ih _ _ _ _ h2
        rw [← h]; simp only [Fo.deep_app, dA, dB] at *; omega
      · injection h with h; rw [← h]; simp only [Fo.deep, dA, dB]; omega
    | stmt =>
      rw [exM] at h
      split at h
      · obtain ⟨c, h1, h⟩ := Option.bind_eq_some_iff.1 h
        obtain ⟨k, h2, h⟩ := Option.bind_eq_some_iff.1 h
        have := ih _ _ _ _ h1
        have := ih _ _ _ _ h2
        split at h
        · obtain ⟨o, h3, h⟩ := Option.bind_eq_some_iff.1 h
          have := ih _ _ _ _ h3
          injection h with h; rw [← h]; simp only [Fo.deep_one, Fo.deep_app, dA, dB] at *; omega
        · injection h with h; rw [← h]; simp only [Fo.deep_one, Fo.deep_app, Fo.deep_zero, dA, dB] at *; omega
      · split at h
        · obtain ⟨c, h1, h⟩ := Option.bind_eq_some_iff.1 h
          obtain ⟨k, h2, h⟩ := Option.bind_eq_some_iff.1 h
          have := ih _ _ _ _ h1
          have := ih _ _ _ _ h2
          injection h with h; rw [← h]; simp only [Fo.deep_one, Fo.deep_app, dA, dB] at *; omega
        · split at h
          · obtain ⟨t, h1, h⟩ := Option.bind_eq_some_iff.1 h
            obtain ⟨v, h2, h⟩ := Option.bind_eq_some_iff.1 h
            have := typed_deep h1
            have := ih _ _ _ _ h2
            injection h with h; rw [← h]; simp only [Fo.deep_one, Fo.deep_app, dA, dB] at *; omega
          · obtain ⟨v, h2, h⟩ := Option.bind_eq_some_iff.1 h
            have := ih _ _ _ _ h2
            injection h with h; rw [← h]; simp only [Fo.deep_one, dA, dB] at *; omega
    | expr =>
      rw [exM] at h
      obtain ⟨a, h1, h⟩ := Option.bind_eq_some_iff.1 h
      have := ih _ _ _ _ h1
      split at h
      · injection h with h; rw [← h]; simp only [dA, dB] at *; omega
      · obtain ⟨c, h2, h⟩ := Option.bind_eq_some_iff.1 h
        have := ih _ _ _ _ h2
        injection h with h; rw [← h]; simp only [Fo.deep_one, Fo.deep_app, dA, dB] at *; omega
    | sum =>
      rw [exM] at h
      obtain ⟨a, h1, h⟩ := Option.bind_eq_some_iff.1 h
      have := ih _ _ _ _ h1
      have := ih _ _ _ _ h
      simp only [dA, dB] at *; omega
    | term =>
      rw [exM] at h
      obtain ⟨a, h1, h⟩ := Option.bind_eq_some_iff.1 h
      have := ih _ _ _ _ h1
      have := ih _ _ _ _ h
      simp only [dA, dB] at *; omega
    | post =>
      rw [exM] at h
      obtain ⟨a, h1, h⟩ := Option.bind_eq_some_iff.1 h
      have := ih _ _ _ _ h1
      have := ih _ _ _ _ h
      simp only [dA, dB] at *; omega
    | sumL a =>
      rw [exM] at h
      split at h
      · obtain ⟨c, h1, h⟩ := Option.bind_eq_some_iff.1 h
        have := ih _ _ _ _ h1
        have := ih _ _ _ _ h
        simp only [Fo.deep_one, Fo.deep_app, dA, dB] at *; omega
      · injection h with h; rw [← h]; simp only [dA, dB]; omega
    | termL a =>
      rw [exM] at h
      split at h
      · obtain ⟨c, h1, h⟩ := Option.bind_eq_some_iff.1 h
        have := ih _ _ _ _ h1
        have := ih _ _ _ _ h
        simp only [Fo.deep_one, Fo.deep_app, dA, dB] at *; omega
      · injection h with h; rw [← h]; simp only [dA, dB]; omega
    | postL a =>
      rw [exM] at h
      split at h
      · split at h
        · have := ih _ _ _ _ h
          simp only [Fo.deep_one, dA, dB] at *; omega
        · obtain ⟨k, h1, h⟩ := Option.bind_eq_some_iff.1 h
          have := ih _ _ _ _ h1
          have := ih _ _ _ _ h
          simp only [Fo.deep_one, Fo.deep_app, dA, dB] at *; omega
      · injection h with h; rw [← h]; simp only [dA, dB]; omega
    | args first =>
      rw [exM] at h
      split at h
      · obtain ⟨t, h1, h⟩ := Option.bind_eq_some_iff.1 h
        have := ih _ _ _ _ h1
        split at h
        · injection h with h; rw [← h]; simp only [dA, dB] at *; omega
        · obtain ⟨y, h2, h⟩ := Option.map_eq_some_iff.1 h
          have := ih _ _ _ _ h2
          rw [← h]; simp only [Fo.deep_app, dA, dB] at *; omega
      · injection h with h; rw [← h]; simp only [Fo.deep, dA, dB]; omega
    | atom =>
      rw [exM] at h
      split at h
      · injection h with h; rw [← h]; simp only [Fo.deep_zero, dA, dB]; omega
      · split at h
        · injection h with h; rw [← h]; simp only [Fo.deep_one, Fo.deep, dA, dB]; omega
        · split at h
          · injection h with h; rw [← h]; simp only [Fo.deep_one, Fo.deep, dA, dB]; omega
          · split at h
            · injection h with h; rw [← h]; simp only [Fo.deep_one, Fo.deep, dA, dB]; omega
            · split at h
              · injection h with h; rw [← h]; simp only [Fo.deep_one, Fo.deep, dA, dB]; omega
              · split at h
                · obtain ⟨x, h1, h⟩ := Option.bind_eq_some_iff.1 h
                  have := ih _ _ _ _ h1
                  injection h with h; rw [← h]; simp only [Fo.deep_one, dA, dB] at *; omega
                · split at h
                  · obtain ⟨x, h1, h⟩ := Option.bind_eq_some_iff.1 h
                    have := ih _ _ _ _ h1
                    injection h with h; rw [← h]; simp only [Fo.deep_one, dA, dB] at *; omega
                  · obtain ⟨x, h1, h⟩ := Option.bind_eq_some_iff.1 h
                    have := ih _ _ _ _ h1
                    injection h with h; rw [← h]; simp only [Fo.deep_one, dA, dB] at *; omega
    | entries first =>
      rw [exM] at h
      split at h
      · obtain ⟨t, h1, h⟩ := Option.bind_eq_some_iff.1 h
        have := ih _ _ _ _ h1
        split at h
        · injection h with h; rw [← h]; simp only [Fo.deep_one, dA, dB] at *; omega
        · obtain ⟨y, h2, h⟩ := Option.map_eq_some_iff.1 h
          have := ih _ _ _ _ h2
          rw [← h]; simp only [Fo.deep_one, Fo.deep_app, dA, dB] at *; omega
      · injection h with h; rw [← h]; simp only [Fo.deep, dA, dB]; omega
theorem dB_mono {f g : Nat} (h : f ≤ g) : dB f ≤ dB g := by
  induction g with
  | zero => rw [Nat.le_zero.1 h]; exact Nat.le_refl _
  | succ g ih =>
    by_cases e : f = g + 1
    · rw [e]; exact Nat.le_refl _
    · have := ih (by omega); rw [dB]; omega
theorem items_deep : ∀ (f g : Nat) (b : Int) (i : Nat) (r : Fo × Nat × Int), f ≤ g → itemsM l f b i = some r → r.1.deep ≤ dB g + 2 := by
  intro f
  induction f with
  | zero => intro g b i r _ h; rw [itemsM] at h; cases h
  | succ f ih =>
    intro g b i r hf h
    rw [itemsM] at h
    split at h
    · split at h
      · obtain ⟨x, h1, h⟩ := Option.map_eq_some_iff.1 h
        have := ih g _ _ _ (by omega) h1
        have hu : (useM l b i).1.deep = 2 := by unfold useM; simp only [Fo.deep_one, Fo.deep]
        rw [← h]; simp only [Fo.deep_app, hu]; omega
      · obtain ⟨t, h1, h⟩ := Option.bind_eq_some_iff.1 h
        obtain ⟨x, h2, h⟩ := Option.map_eq_some_iff.1 h
        have := ih g _ _ _ (by omega) h2
        have hd : t.1.deep ≤ dB f + 1 := by
          unfold defM at h1
          obtain ⟨k, h3, h1⟩ := Option.bind_eq_some_iff.1 h1
          have := ex_deep _ _ _ _ _ h3
          injection h1 with h1; rw [← h1]; simp only [Fo.deep_one, dA] at *; omega
        have := dB_mono (f := f) (g := g) (by omega)
        rw [← h]; simp only [Fo.deep_app]; omega
    · injection h with h; rw [← h]; simp only [Fo.deep]; omega
theorem dB_le : ∀ f, f ≤ 1000000 → dB f ≤ f * 1000003
  | 0, _ => Nat.le_refl _
  | f + 1, h => by have := dB_le f (by omega); rw [dB, Nat.add_mul]; omega
theorem items_deep' {r : Fo × Nat × Int} (h : itemsM l fuel (-1) 0 = some r) : r.1.deep ≤ 900000000000 := by
  have h1 := items_deep fuel fuel (-1) 0 r (Nat.le_refl _) h
  have h2 := dB_le fuel (by unfold fuel; omega)
  unfold fuel at *
  omega
end Ps
end Go.Proofs.YtiabkkdeonepgaaGreatDoor
namespace Go.Proofs.YtiabkkdeonepgaaGreatDoor
namespace Ps
variable {l : List Tok}
def Fo.wide : Fo → Nat
  | .nil => 0
  | .cons _ k r => max (max k.len k.wide) r.wide
theorem Fo.wide_one (h : Hd) (k : Fo) : (Fo.one h k).wide = max k.len k.wide := by simp [Fo.one, Fo.wide]
theorem Fo.wide_app : ∀ a b : Fo, (a.app b).wide = max a.wide b.wide
  | .nil, b => by simp [Fo.app, Fo.wide]
  | .cons h k r, b => by rw [Fo.app, Fo.wide, Fo.wide, Fo.wide_app r]; omega
theorem Fo.wide_zero : Fo.zero.wide = 0 := rfl
theorem Fo.len_zero : Fo.zero.len = 1 := rfl
theorem Fo.len_one (h : Hd) (k : Fo) : (Fo.one h k).len = 1 := rfl
def lT (f : Nat) : TT → Nat
  | .kind => 1
  | _ => f
def wL (f : Nat) : XT → Nat
  | .lambda => 3
  | .stmts | .args _ | .entries _ => f
  | .sumL a | .termL a | .postL a => max a.len 1
  | _ => 1
def wW (f : Nat) : XT → Nat
  | .sumL a | .termL a | .postL a => max (max a.wide (a.len + f)) (f + 3)
  | _ => f + 3
theorem ty_wide : ∀ (f : Nat) (t : TT) (b : Int) (i : Nat) (r : Fo × Nat × Int), tyM l f t b i = some r → (r.1.len ≤ lT f t ∧ r.1.wide ≤ f + 3) := by
  intro f
  induction f with
  | zero => intro t b i r h; rw [tyM] at h; cases h
  | succ f ih =>
    intro t b i r h
    cases t with
    | kind =>
      rw [tyM] at h
      split at h
      · injection h with h; rw [← h]; simp only [Fo.wide_zero, Fo.len_zero, lT] at *; omega
      · split at h
        · injection h with h; rw [← h]; simp only [Fo.wide_one, Fo.len_one, Fo.wide, Fo.len, lT] at *; omega
        · split at h
          · injection h with h; rw [← h]; simp only [Fo.wide_one, Fo.len_one, Fo.wide, Fo.len, lT] at *; omega
          · split at h
            · injection h with h; rw [← h]; simp only [Fo.wide_one, Fo.len_one, Fo.wide, Fo.len, lT] at *; omega
            · split at h
              · obtain ⟨x, hx, h⟩ := Option.bind_eq_some_iff.1 h
                have := ih _ _ _ _ hx
                injection h with h; rw [← h]; simp only [Fo.wide_one, Fo.len_one, lT] at *; omega
              · obtain ⟨x, hx, h⟩ := Option.bind_eq_some_iff.1 h
                obtain ⟨t, ht, h⟩ := Option.bind_eq_some_iff.1 h
                have := ih _ _ _ _ hx
                have := ih _ _ _ _ ht
                injection h with h; rw [← h]; simp only [Fo.wide_one, Fo.wide_app, Fo.len_app, Fo.len_one, lT] at *; omega
    | recL first =>
      rw [tyM] at h
      split at h
      · obtain ⟨t, ht, h⟩ := Option.bind_eq_some_iff.1 h
        have := ih _ _ _ _ ht
        split at h
        · injection h with h; rw [← h]; simp only [Fo.wide_one, Fo.len_one, lT] at *; omega
        · obtain ⟨x, hx, h⟩ := Option.map_eq_some_iff.1 h
          have := ih _ _ _ _ hx
          rw [← h]; simp only [Fo.wide_one, Fo.wide_app, Fo.len_app, Fo.len_one, lT] at *; omega
      · injection h with h; rw [← h]; simp only [Fo.wide, Fo.len, lT] at *; omega
    | fnL first =>
      rw [tyM] at h
      split at h
      · obtain ⟨t, ht, h⟩ := Option.bind_eq_some_iff.1 h
        have := ih _ _ _ _ ht
        split at h
        · injection h with h; rw [← h]; simp only [lT] at *; omega
        · obtain ⟨x, hx, h⟩ := Option.map_eq_some_iff.1 h
          have := ih _ _ _ _ hx
          rw [← h]; simp only [Fo.wide_app, Fo.len_app, lT] at *; omega
      · injection h with h; rw [← h]; simp only [Fo.wide, Fo.len, lT] at *; omega
theorem typed_wide {f : Nat} {b : Int} {i : Nat} {r : Fo × Nat × Int} (h : typedM l f b i = some r) : r.1.len ≤ 1 ∧ r.1.wide ≤ f + 3 := by
  unfold typedM at h
  split at h
  · injection h with h; rw [← h]; simp only [Fo.wide_zero, Fo.len_zero] at *; omega
  · have := ty_wide _ _ _ _ _ h; simp only [lT] at this; omega
theorem par_wide : ∀ (f : Nat) (first : Bool) (b : Int) (i : Nat) (r : Fo × Nat × Int), parL l f first b i = some r → (r.1.len ≤ f ∧ r.1.wide ≤ f + 3) := by
  intro f
  induction f with
  | zero => intro first b i r h; rw [parL] at h; cases h
  | succ f ih =>
    intro first b i r h
    rw [parL] at h
    split at h
    · obtain ⟨t, ht, h⟩ := Option.bind_eq_some_iff.1 h
      have := typed_wide ht
      split at h
      · injection h with h; rw [← h]; simp only [Fo.wide_one, Fo.len_one] at *; omega
      · obtain ⟨x, hx, h⟩ := Option.map_eq_some_iff.1 h
        have := ih _ _ _ _ hx
        rw [← h]; simp only [Fo.wide_one, Fo.wide_app, Fo.len_app, Fo.len_one] at *; omega
    · injection h with h; rw [← h]; simp only [Fo.wide, Fo.len] at *; omega
theorem params_wide {f : Nat} {b : Int} {i : Nat} {r : Fo × Nat × Int} (h : paramsM l f b i = some r) : r.1.len ≤ 1 ∧ r.1.wide ≤ f + 3 := by
  unfold paramsM at h
  obtain ⟨x, hx, h⟩ := Option.bind_eq_some_iff.1 h
  have := par_wide _ _ _ _ _ hx
  injection h with h; rw [← h]; simp only [Fo.wide_one, Fo.len_one] at *; omega
theorem ex_wide : ∀ (f : Nat) (t : XT) (b : Int) (i : Nat) (r : Fo × Nat × Int), exM l f t b i = some r → (r.1.len ≤ wL f t ∧ r.1.wide ≤ wW f t) := by
  intro f
  induction f with
  | zero => intro t b i r h; rw [exM] at h; cases h
  | succ f ih =>
    intro t b i r h
    cases t with
    | lambda =>
      rw [exM] at h
      obtain ⟨p, h1, h⟩ := Option.bind_eq_some_iff.1 h
      obtain ⟨t, h2, h⟩ := Option.bind_eq_some_iff.1 h
      obtain ⟨k, h3, h⟩ := Option.bind_eq_some_iff.1 h
      have := params_wide h1
      have := typed_wide h2
      have := ih _ _ _ _ h3
      injection h with h; rw [← h]; simp only [Fo.wide_app, Fo.len_app, wL, wW] at *; omega
    | block =>
      rw [exM] at h
      obtain ⟨x, h1, h⟩ := Option.bind_eq_some_iff.1 h
      have := ih _ _ _ _ h1
      injection h with h; rw [← h]; simp only [Fo.wide_one, Fo.len_one, wL, wW] at *; omega
    | stmts =>
      rw [exM] at h
      split at h
      · obtain ⟨x, h1, h⟩ := Option.bind_eq_some_iff.1 h
        obtain ⟨y, h2, h⟩ := Option.map_eq_some_iff.1 h
        have := ih _ _ _ _ h1
        have := ih _ _ _ _ h2
        rw [← h]; simp only [Fo.wide_app, Fo.len_app, wL, wW] at *; omega
      · injection h with h; rw [← h]; simp only [Fo.wide, Fo.len, wL, wW] at *; omega
    | stmt =>
      rw [exM] at h
      split at h
      · obtain ⟨c, h1, h⟩ := Option.bind_eq_some_iff.1 h
        obtain ⟨k, h2, h⟩ := Option.bind_eq_some_iff.1 h
        have := ih _ _ _ _ h1
        have := ih _ _ _ _ h2
        split at h
        · obtain ⟨o, h3, h⟩ := Option.bind_eq_some_iff.1 h
          have := ih _ _ _ _ h3
          injection h with h; rw [← h]; simp only [Fo.wide_one, Fo.wide_app, Fo.len_app, Fo.len_one, wL, wW] at *; omega
        · injection h with h; rw [← h]; simp only [Fo.wide_one, Fo.wide_app, Fo.wide_zero, Fo.len_app, Fo.len_one, Fo.len_zero, wL, wW] at *; omega
      · split at h
        · obtain ⟨c, h1, h⟩ := Option.bind_eq_some_iff.1 h
          obtain ⟨k, h2, h⟩ := Option.bind_eq_some_iff.1 h
          have := ih _ _ _ _ h1
          have := ih _ _ _ _ h2
          injection h with h; rw [← h]; simp only [Fo.wide_one, Fo.wide_app, Fo.len_app, Fo.len_one, wL, wW] at *; omega
        · split at h
          · obtain ⟨t, h1, h⟩ := Option.bind_eq_some_iff.1 h
            obtain ⟨v, h2, h⟩ := Option.bind_eq_some_iff.1 h
            have := typed_wide h1
            have := ih _ _ _ _ h2
            injection h with h; rw [← h]; simp only [Fo.wide_one, Fo.wide_app, Fo.len_app, Fo.len_one, wL, wW] at *; omega
          · obtain ⟨v, h2, h⟩ := Option.bind_eq_some_iff.1 h
            have := ih _ _ _ _ h2
            injection h with h; rw [← h]; simp only [Fo.wide_one, Fo.len_one, wL, wW] at *; omega
    | expr =>
      rw [exM] at h
      obtain ⟨a, h1, h⟩ := Option.bind_eq_some_iff.1 h
      have := ih _ _ _ _ h1
      split at h
      · injection h with h; rw [← h]; simp only [wL, wW] at *; omega
      · obtain ⟨c, h2, h⟩ := Option.bind_eq_some_iff.1 h
        have := ih _ _ _ _ h2
        injection h with h; rw [← h]; simp only [Fo.wide_one, Fo.wide_app, Fo.len_app, Fo.len_one, wL, wW] at *; omega
    | sum =>
      rw [exM] at h
      obtain ⟨a, h1, h⟩ := Option.bind_eq_some_iff.1 h
      have := ih _ _ _ _ h1
      have := ih _ _ _ _ h
      simp only [wL, wW] at *; omega
    | term =>
      rw [exM] at h
      obtain ⟨a, h1, h⟩ := Option.bind_eq_some_iff.1 h
      have := ih _ _ _ _ h1
      have := ih _ _ _ _ h
      simp only [wL, wW] at *; omega
    | post =>
      rw [exM] at h
      obtain ⟨a, h1, h⟩ := Option.bind_eq_some_iff.1 h
      have := ih _ _ _ _ h1
      have := ih _ _ _ _ h
      simp only [wL, wW] at *; omega
    | sumL a =>
      rw [exM] at h
      split at h
      · obtain ⟨c, h1, h⟩ := Option.bind_eq_some_iff.1 h
        have := ih _ _ _ _ h1
        have := ih _ _ _ _ h
        simp only [Fo.wide_one, Fo.wide_app, Fo.len_app, Fo.len_one, wL, wW] at *; omega
      · injection h with h; rw [← h]; simp only [wL, wW] at *; omega
    | termL a =>
      rw [exM] at h
      split at h
      · obtain ⟨c, h1, h⟩ := Option.bind_eq_some_iff.1 h
        have := ih _ _ _ _ h1
        have := ih _ _ _ _ h
        simp only [Fo.wide_one, Fo.wide_app, Fo.len_app, Fo.len_one, wL, wW] at *; omega
      · injection h with h; rw [← h]; simp only [wL, wW] at *; omega
    | postL a =>
      rw [exM] at h
      split at h
      · split at h
        · have := ih _ _ _ _ h
          simp only [Fo.wide_one, Fo.len_one, wL, wW] at *; omega
        · obtain ⟨k, h1, h⟩ := Option.bind_eq_some_iff.1 h
          have := ih _ _ _ _ h1
          have := ih _ _ _ _ h
          simp only [Fo.wide_one, Fo.wide_app, Fo.len_app, Fo.len_one, wL, wW] at *; omega
      · injection h with h; rw [← h]; simp only [wL, wW] at *; omega
    | args first =>
      rw [exM] at h
      split at h
      · obtain ⟨t, h1, h⟩ := Option.bind_eq_some_iff.1 h
        have := ih _ _ _ _ h1
        split at h
        · injection h with h; rw [← h]; simp only [wL, wW] at *; omega
        · obtain ⟨y, h2, h⟩ := Option.map_eq_some_iff.1 h
          have := ih _ _ _ _ h2
          rw [← h]; simp only [Fo.wide_app, Fo.len_app, wL, wW] at *; omega
      · injection h with h; rw [← h]; simp only [Fo.wide, Fo.len, wL, wW] at *; omega
    | atom =>
      rw [exM] at h
      split at h
      · injection h with h; rw [← h]; simp only [Fo.wide_zero, Fo.len_zero, wL, wW] at *; omega
      · split at h
        · injection h with h; rw [← h]; simp only [Fo.wide_one, Fo.len_one, Fo.wide, Fo.len, wL, wW] at *; omega
        · split at h
          · injection h with h; rw [← h]; simp only [Fo.wide_one, Fo.len_one, Fo.wide, Fo.len, wL, wW] at *; omega
          · split at h
            · injection h with h; rw [← h]; simp only [Fo.wide_one, Fo.len_one, Fo.wide, Fo.len, wL, wW] at *; omega
            · split at h
              · injection h with h; rw [← h]; simp only [Fo.wide_one, Fo.len_one, Fo.wide, Fo.len, wL, wW] at *; omega
              · split at h
                · obtain ⟨x, h1, h⟩ := Option.bind_eq_some_iff.1 h
                  have := ih _ _ _ _ h1
                  injection h with h; rw [← h]; simp only [Fo.wide_one, Fo.len_one, wL, wW] at *; omega
                · split at h
                  · obtain ⟨x, h1, h⟩ := Option.bind_eq_some_iff.1 h
                    have := ih _ _ _ _ h1
                    injection h with h; rw [← h]; simp only [Fo.wide_one, Fo.len_one, wL, wW] at *; omega
                  · obtain ⟨x, h1, h⟩ := Option.bind_eq_some_iff.1 h
                    have := ih _ _ _ _ h1
                    injection h with h; rw [← h]; simp only [Fo.wide_one, Fo.len_one, wL, wW] at *; omega
    | entries first =>
      rw [exM] at h
      split at h
      · obtain ⟨t, h1, h⟩ := Option.bind_eq_some_iff.1 h
        have := ih _ _ _ _ h1
        split at h
        · injection h with h; rw [← h]; simp only [Fo.wide_one, Fo.len_one, wL, wW] at *; omega
        · obtain ⟨y, h2, h⟩ := Option.map_eq_some_iff.1 h
          have := ih _ _ _ _ h2
          rw [← h]; simp only [Fo.wide_one, Fo.wide_app, Fo.len_app, Fo.len_one, wL, wW] at *; omega
      · injection h with h; rw [← h]; simp only [Fo.wide, Fo.len, wL, wW] at *; omega
theorem items_wide : ∀ (f g : Nat) (b : Int) (i : Nat) (r : Fo × Nat × Int), f ≤ g → itemsM l f b i = some r → (r.1.len ≤ f ∧ r.1.wide ≤ g + 3) := by
  intro f
  induction f with
  | zero => intro g b i r _ h; rw [itemsM] at h; cases h
  | succ f ih =>
    intro g b i r hf h
    rw [itemsM] at h
    split at h
    · split at h
      · obtain ⟨x, h1, h⟩ := Option.map_eq_some_iff.1 h
        have := ih g _ _ _ (by omega) h1
        have hu : (useM l b i).1.len = 1 ∧ (useM l b i).1.wide = 1 := by unfold useM; simp only [Fo.wide_one, Fo.wide, Fo.len_one, Fo.len]; exact ⟨trivial, rfl⟩
        rw [← h]; simp only [Fo.wide_app, Fo.len_app, hu.1, hu.2]; omega
      · obtain ⟨t, h1, h⟩ := Option.bind_eq_some_iff.1 h
        obtain ⟨x, h2, h⟩ := Option.map_eq_some_iff.1 h
        have := ih g _ _ _ (by omega) h2
        have hd : t.1.len = 1 ∧ t.1.wide ≤ f + 3 := by
          unfold defM at h1
          obtain ⟨k, h3, h1⟩ := Option.bind_eq_some_iff.1 h1
          have := ex_wide _ _ _ _ _ h3
          simp only [wL, wW] at this
          injection h1 with h1; rw [← h1]; refine ⟨rfl, ?_⟩; simp only [Fo.wide_one]; omega
        rw [← h]; simp only [Fo.wide_app, Fo.len_app]; omega
    · injection h with h; rw [← h]; simp only [Fo.wide, Fo.len]; omega
theorem items_wide' {r : Fo × Nat × Int} (h : itemsM l fuel (-1) 0 = some r) : r.1.len ≤ 1000000 ∧ r.1.wide ≤ 1000000 := by
  have h1 := items_wide fuel fuel (-1) 0 r (Nat.le_refl _) h
  unfold fuel at *
  omega
end Ps
end Go.Proofs.YtiabkkdeonepgaaGreatDoor
namespace Go.Proofs.YtiabkkdeonepgaaGreatDoor
open Go.RowKit
namespace Ps
def Fo.drop : Fo → Nat → Fo
  | k, 0 => k
  | .nil, _ + 1 => .nil
  | .cons _ _ r, i + 1 => r.drop i
theorem Fo.drop_zero (k : Fo) : k.drop 0 = k := by cases k <;> rfl
theorem Fo.drop_end : ∀ (k : Fo) (i : Nat), k.len ≤ i → k.drop i = .nil
  | .nil, 0, _ => rfl
  | .nil, i + 1, _ => rfl
  | .cons h k r, 0, hh => by simp [Fo.len] at hh
  | .cons h k r, i + 1, hh => by rw [Fo.drop]; exact Fo.drop_end r i (by rw [Fo.len] at hh; omega)
theorem Fo.drop_cons : ∀ (k : Fo) (i : Nat), i < k.len → ∃ h kk, k.drop i = .cons h kk (k.drop (i + 1))
  | .nil, i, hh => by simp [Fo.len] at hh
  | .cons h k r, 0, hh => ⟨h, k, by rw [Fo.drop, Fo.drop, Fo.drop_zero]⟩
  | .cons h k r, i + 1, hh => by
    obtain ⟨h', kk, e⟩ := Fo.drop_cons r i (by rw [Fo.len] at hh; omega)
    exact ⟨h', kk, by rw [Fo.drop, Fo.drop]; exact e⟩
theorem Fo.drop_len : ∀ (k : Fo) (i : Nat), (k.drop i).len = k.len - i
  | k, 0 => by rw [Fo.drop_zero]; rfl
  | .nil, i + 1 => by simp [Fo.drop, Fo.len]
  | .cons h k r, i + 1 => by rw [Fo.drop, Fo.drop_len r i, Fo.len]; omega
theorem FC.nth {w : World} {P : Nat → Prop} : ∀ (k : Fo) (cs : List Value) (i : Nat) (h : Hd) (kk r : Fo), FC w P k cs → k.drop i = .cons h kk r →
    ∃ A cap, KV w P kk A cap ∧ ∀ j u, [Value.int .i64 h.kind, .int .i64 h.fro, .int .i64 h.til, .string h.word, .int .i64 h.at_, .slice A kk.len cap][j]? = some u → cs[i * 6 + j]? = some u
  | .nil, cs, i, h, kk, r, hf, e => by cases i <;> simp [Fo.drop] at e
  | .cons h' k' r', cs, 0, h, kk, r, hf, e => by
    rw [Fo.drop] at e
    injection e with e1 e2 e3
    subst e1 e2 e3
    rw [FC] at hf
    obtain ⟨A, cap, cs', rfl, hc, hk, hr⟩ := hf
    refine ⟨A, cap, ⟨hc, hk⟩, fun j u hu => ?_⟩
    rw [Nat.zero_mul, Nat.zero_add, List.getElem?_append_left (List.getElem?_eq_some_iff.1 hu).1]
    exact hu
  | .cons h' k' r', cs, i + 1, h, kk, r, hf, e => by
    rw [Fo.drop] at e
    rw [FC] at hf
    obtain ⟨A, cap, cs', rfl, hc, hk, hr⟩ := hf
    obtain ⟨A2, c2, h1, h2⟩ := FC.nth r' cs' i h kk r hr e
    refine ⟨A2, c2, h1, fun j u hu => ?_⟩
    have := h2 j u hu
    rw [List.getElem?_append_right (by simp; omega)]
    rw [← this]
    congr 1
    simp only [List.length_cons, List.length_nil]
    omega
theorem KV.nth {w : World} {P : Nat → Prop} {k : Fo} {A : Option Addr} {cap i : Nat} {h : Hd} {kk r : Fo} (hk : KV w P k A cap) (e : k.drop i = .cons h kk r) :
    ∃ g o A2 c2, A = some ⟨g, o, none⟩ ∧ P g ∧ g < w.heap.size ∧ KV w P kk A2 c2 ∧ w.cell? ⟨g, o + i * 6, none⟩ = some (.int .i64 h.kind) ∧ w.cell? ⟨g, o + i * 6 + 1, none⟩ = some (.int .i64 h.fro) ∧ w.cell? ⟨g, o + i * 6 + 2, none⟩ = some (.int .i64 h.til) ∧
      w.cell? ⟨g, o + i * 6 + 3, none⟩ = some (.string h.word) ∧ w.cell? ⟨g, o + i * 6 + 4, none⟩ = some (.int .i64 h.at_) ∧ w.cell? ⟨g, o + i * 6 + 5, none⟩ = some (.slice A2 kk.len c2) := by
  have hl : 0 < k.len := by
    have := Fo.drop_len k i
    rw [e, Fo.len] at this
    omega
  obtain ⟨g, o, ck, hA, hP, hg, hc, hf⟩ := hk.2 hl
  obtain ⟨A2, c2, h1, h2⟩ := FC.nth k ck i h kk r hf e
  have key := fun j u hu => hc _ _ (h2 j u hu)
  exact ⟨g, o, A2, c2, hA, hP, hg, h1, key 0 _ rfl, key 1 _ rfl, key 2 _ rfl, key 3 _ rfl, key 4 _ rfl, key 5 _ rfl⟩
theorem KV.below {w w' : World} {P : Nat → Prop} {k : Fo} {A : Option Addr} {cap : Nat} (h : KV w P k A cap) (hb : Below w.heap.size w w') : KV w' P k A cap :=
  h.keep hb.size (fun g hg hl => ⟨hb.block g hl, hg⟩)
theorem Fo.drop_bounds : ∀ (k : Fo) (i : Nat) (h : Hd) (kk r : Fo), k.drop i = .cons h kk r → kk.len ≤ k.wide ∧ kk.wide ≤ k.wide ∧ 1 + kk.deep ≤ k.deep
  | .nil, i, h, kk, r, e => by cases i <;> simp [Fo.drop] at e
  | .cons h' k' r', 0, h, kk, r, e => by
    rw [Fo.drop] at e
    injection e with e1 e2 e3
    subst e1 e2 e3
    rw [Fo.wide, Fo.deep]
    omega
  | .cons h' k' r', i + 1, h, kk, r, e => by
    rw [Fo.drop] at e
    have := Fo.drop_bounds r' i h kk r e
    rw [Fo.wide, Fo.deep]
    omega
end Ps
namespace Pg
open Ps
theorem fo_deep_cons (h : Hd) (k r : Fo) : (Fo.cons h k r).deep = max (1 + k.deep) r.deep := rfl
set_option maxHeartbeats 4000000 in
set_option maxRecDepth 100000 in
theorem depth_any : ∀ (n : Nat) (h : Hd) (k : Fo) (A : Option Addr) (cap : Nat) (P : Nat → Prop) (w : World), k.deep ≤ n → n ≤ 1000000000001 → k.len ≤ 1000001 → k.wide ≤ 1000001 → KV w P k A cap →
    Calls Tryz.prog 16 #[nvv h A k.len cap] w fun e w' => e = .returned (.int .i64 ((1 + k.deep : Nat) : Int)) ∧ Below w.heap.size w w' := by
  intro n
  induction n using Nat.strongRecOn with
  | _ n ih =>
  intro h k A cap P w hd hn hl hw hk
  have HK := Lib.hid hk
  have IH := Lib.hid ih
  have B0 := Lib.hid (bel1 w (.cells #[.int .i64 h.kind, .int .i64 h.fro, .int .i64 h.til, .string h.word, .int .i64 h.at_, .slice A k.len cap] 25))
  obtain ⟨n0, hn0⟩ : ∃ n0, n0 = k.len := ⟨_, rfl⟩
  obtain ⟨d0, hd0⟩ : ∃ d0, d0 = k.deep := ⟨_, rfl⟩
  have HN := Lib.hid hn0
  have HD := Lib.hid hd0
  have HW := Lib.hid hw
  rw [← hd0] at hd ⊢
  rw [← hn0] at hl B0 ⊢
  clear hk hn0 hd0 hw ih
  go_enter Tryz.func16, Tryz.ntmps16
  go_wp2_with fail
  go_loopg [3, 9] (n0 + 1) (fun kx s3 s9 wr => ∃ (i m : Nat), s9 = .int .i64 i ∧ s3 = .int .i64 m ∧ n0 - i ≤ kx ∧ i ≤ n0 ∧ m ≤ d0 ∧ Hid (max m (k.drop i).deep = d0) ∧ Hid (Below w.heap.size w wr))
  case atStart => exact ⟨0, 0, rfl, rfl, by omega, by omega, by omega, by unfold Hid; rw [Fo.drop_zero, HD.out]; omega, B0.out⟩
  case round =>
    obtain ⟨i, m, rfl, rfl, hkx, hin, hmd, HM, HB⟩ := hrel
    by_cases hi : i < n0
    · have hil : (i : Int) < (n0 : Int) := by omega
      obtain ⟨h', kk, e⟩ := Fo.drop_cons k i (by rw [← HN.out]; exact hi)
      obtain ⟨g, o, A2, c2, rfl, hP, hg, hkk, c0, c1, c2', c3, c4, c5⟩ := KV.nth (HK.out.below HB.out) e
      obtain ⟨b1, b2, b3⟩ := Fo.drop_bounds k i _ _ _ e
      have hdd : (k.drop i).deep = max (1 + kk.deep) (k.drop (i + 1)).deep := by rw [e, fo_deep_cons]
      obtain ⟨dk, hdk⟩ : ∃ dk, dk = 1 + kk.deep := ⟨_, rfl⟩
      obtain ⟨j, hj⟩ : ∃ j, j = i + 1 := ⟨_, rfl⟩
      have e1 : IntKind.i64.wrap ((i : Int) + 1) = (j : Int) := by rw [IntKind.wrap_i64]; omega
      have CC : Hid (∀ w', Below wr.heap.size wr w' → Calls Tryz.prog 16 #[nvv h' A2 kk.len c2] w' fun e w'' => e = .returned (.int .i64 (dk : Int)) ∧ Below w'.heap.size w' w'') := fun w' hb => by
        rw [hdk]
        exact IH.out kk.deep (by rw [← HD.out] at b3; omega) h' kk A2 c2 P w' (Nat.le_refl _) (by rw [← HD.out] at b3; omega) (by have := HW.out; omega) (by have := HW.out; omega) (hkk.below hb)
      have hdk2 : dk ≤ d0 := by rw [← HD.out] at b3; omega
      have HM2 : Hid (max (max m dk) (k.drop j).deep = d0) := by
        have := HM.out
        rw [hdd, ← hdk, ← hj] at this
        unfold Hid
        omega
      have B1 := Lib.hid (bel1 wr (.cells (ncc h' A2 kk.len c2) 25))
      have HJ := Lib.hid hj
      clear e hkk b1 b2 b3 hdd hdk hj HM
      go_wp2_with fail
      refine (CC.out _ B1.out).mono ?_
      rintro e2 w2 ⟨rfl, hb2⟩
      have B2 := Lib.hid (HB.out.trans ((B1.out.trans (hb2.mono (by simp))).mono HB.out.size))
      clear hb2 CC B1
      go_wp2_with fail
      have hj := HJ.out
      go_roundg (n0 - j)
      case measure => omega
      case rel => exact ⟨j, max m dk, rfl, by rw [show (max (m : Int) (dk : Int)) = ((max m dk : Nat) : Int) by omega], by omega, by omega, by omega, HM2.out, B2.out⟩
    · have hi2 : i = n0 := by omega
      have hm : m = d0 := by
        have := HM.out
        rw [Fo.drop_end k i (by rw [← HN.out]; omega)] at this
        simp only [Fo.deep] at this
        omega
      have hd1 : decide ((i : Int) < (n0 : Int)) = false := decide_eq_false (by omega)
      have hd2 : decide (i < n0) = false := decide_eq_false (by omega)
      obtain ⟨d1, hd3⟩ : ∃ d1, d1 = 1 + m := ⟨_, rfl⟩
      have e1 : IntKind.i64.wrap (1 + (m : Int)) = (d1 : Int) := by rw [IntKind.wrap_i64]; omega
      have HE : Hid (d1 = 1 + d0) := by unfold Hid; omega
      clear hi hi2 HM hd3 hm
      go_wp2_with fail
      go_ret
      exact ⟨by rw [HE.out]; rfl, HB.out⟩
end Pg
end Go.Proofs.YtiabkkdeonepgaaGreatDoor
