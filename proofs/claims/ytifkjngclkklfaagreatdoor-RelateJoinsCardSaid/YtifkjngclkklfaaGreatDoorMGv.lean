/- Contracts: what two records have in common, by the program. -/
import Derived.Test.YtifkjngclkklfaaGreatDoorMGu
import Derived.Test.YtifkjngclkklfaaGreatDoorMGn
import Derived.Test.YtifkjngclkklfaaGreatDoorMGo
namespace Go.Proofs.YtifkjngclkklfaaGreatDoor
open Go.RowKit Go.Op
namespace Tm
theorem comR_take {f : Ty → Ty → Ty} {bn : List ByteArray} {bp : List Ty} : ∀ {xs : List ByteArray} {ps : List Ty} {i : Nat} {x : ByteArray} {p : Ty}, xs[i]? = some x → ps[i]? = some p →
    comR f bn bp (xs.take (i + 1)) (ps.take (i + 1)) = comR f bn bp (xs.take i) (ps.take i) ++ (match lk bn bp x with | some q => [(x, f p q)] | none => [])
  | [], _, i, x, p, h, _ => by simp at h
  | _ :: _, [], i, x, p, _, h => by simp at h
  | y :: xs, r :: ps, 0, x, p, h, h' => by
    obtain rfl : y = x := by simpa using h
    obtain rfl : r = p := by simpa using h'
    simp only [List.take_succ_cons, List.take_zero, comR, List.nil_append]
    cases lk bn bp y <;> rfl
  | y :: xs, r :: ps, i + 1, x, p, h, h' => by
    have ih := comR_take (f := f) (bn := bn) (bp := bp) (xs := xs) (ps := ps) (i := i) (x := x) (p := p) (by simpa using h) (by simpa using h')
    simp only [List.take_succ_cons, comR]
    rw [ih]
    cases lk bn bp y <;> rfl
theorem comR_len {f : Ty → Ty → Ty} {bn : List ByteArray} {bp : List Ty} : ∀ (xs : List ByteArray) (ps : List Ty), (comR f bn bp xs ps).length ≤ xs.length
  | [], _ => by simp [comR]
  | _ :: _, [] => by simp [comR]
  | x :: xs, p :: ps => by
    have := comR_len (f := f) (bn := bn) (bp := bp) xs ps
    rw [comR]
    cases lk bn bp x <;> simp <;> omega
/-- Blocks of old memory that Q is said of, or new ones; but T and the two rows. -/
def fr3 (B T : Nat) (Q : Nat → Prop) (v1 v2 : Value) (g : Nat) : Prop := (Q g ∨ B ≤ g) ∧ g ≠ T ∧ v1.ownBlock ≠ some g ∧ v2.ownBlock ≠ some g
/-- Labels and parts as far as they have been laid; parts may lie in new memory; T turns. -/
structure RC (W wa : World) (T : Nat) (Q : Nat → Prop) (v1 v2 : Value) (nl : List ByteArray) (tl : List Ty) (cs : List Value) : Prop where
  o1 : wa.ownsRow W.heap.size 9 1 v1 nl.length (nl.map Value.string)
  o2 : wa.ownsRow W.heap.size 25 3 v2 tl.length cs
  tl : TL wa (fr3 W.heap.size T Q v1 v2) tl cs
  fr : Fr T W.heap.size W wa
section
variable {W wa wb : World} {T : Nat} {Q : Nat → Prop} {v1 v2 v1' v2' : Value} {nl : List ByteArray} {tl : List Ty} {cs : List Value} {t : Ty} {An : Option Addr} {cn : Nat} {A : Option Addr} {c : Nat}
theorem RC.start (W : World) (T : Nat) (Q : Nat → Prop) : RC W W T Q (.slice none 0 0) (.slice none 0 0) [] [] [] :=
  ⟨World.ownsRow_nil W _ 9 1, World.ownsRow_nil W _ 25 3, by rw [TL], Fr.refl _ _ _⟩
theorem RC.below (h : RC W wa T Q v1 v2 nl tl cs) (hb : Below wa.heap.size wa wb) : RC W wb T Q v1 v2 nl tl cs :=
  ⟨own_bel2 h.o1 hb, own_bel2 h.o2 hb, h.tl.below hb, h.fr.step (.of hb)⟩
theorem RC.put (h : RC W wa T Q v1 v2 nl tl cs) (hT : T < W.heap.size) (j : Nat) (u : Value) : RC W (wa.setCell ⟨T, j, none⟩ u) T Q v1 v2 nl tl cs := by
  have hf : Fr T wa.heap.size wa (wa.setCell ⟨T, j, none⟩ u) := (Fr.refl T wa.heap.size wa).put j u
  exact ⟨hf.own h.o1 hT, hf.own h.o2 hT, h.tl.keep1 hf.size (fun g hp hl => hf.block g hl hp.2.1), h.fr.put j u⟩
theorem RC.app1 (h : RC W wa T Q v1 v2 nl tl cs) (_hQ : ∀ g, Q g → g < W.heap.size) {s : ByteArray} {g1 : Nat} (hown : wb.ownsRow W.heap.size 9 1 v1' (nl.length + 1) (nl.map Value.string ++ [.string s])) (hg : wa.grownBy wb v1.ownBlock)
    (hv : v1'.ownBlock = some g1) (hat : v1.ownBlock = some g1 ∨ g1 = wa.heap.size) : RC W wb T Q v1' v2 (nl ++ [s]) tl cs := by
  have key : ∀ g, fr3 W.heap.size T Q v1 v2 g → g < wa.heap.size → wb.heap[g]? = wa.heap[g]? ∧ fr3 W.heap.size T Q v1' v2 g := fun g hp hl => by
    refine ⟨hg.block g hl fun e => hp.2.2.1 e.symm, hp.1, hp.2.1, fun e => ?_, hp.2.2.2⟩
    rw [hv] at e
    injection e with e
    subst e
    rcases hat with h | h
    · exact hp.2.2.1 h
    · omega
  exact ⟨by simpa using hown, own_keep h.o2 hg (own_apart h.o2 h.o1 (by omega)), TL.keep hg.size key _ _ h.tl, h.fr.grown hg h.fr.size (fun k hk => (h.o1.lt k hk).1)⟩
theorem RC.pend (h : RC W wa T Q v1 v2 nl tl cs) (hQ : ∀ g, Q g → g < W.heap.size ∧ g ≠ T) (hT : T < W.heap.size) (ht : TI wb (fun g => Q g ∨ wa.heap.size ≤ g) t An cn A c) : TI wb (fr3 W.heap.size T Q v1 v2) t An cn A c :=
  ht.mono fun g hg => by
    have h1 := h.fr.size
    rcases hg with hg | hg
    · have := hQ g hg
      refine ⟨.inl hg, this.2, fun e => ?_, fun e => ?_⟩
      · have := (h.o1.lt g e).1; omega
      · have := (h.o2.lt g e).1; omega
    · refine ⟨.inr (by omega), by omega, fun e => ?_, fun e => ?_⟩
      · have := (h.o1.lt g e).2; omega
      · have := (h.o2.lt g e).2; omega
theorem RC.app2 (h : RC W wa T Q v1 v2 nl tl cs) (ht : TI wa (fr3 W.heap.size T Q v1 v2) t An cn A c) {g1 : Nat} (hown : wb.ownsRow W.heap.size 25 3 v2' (tl.length + 1) (cs ++ tcs t An cn A c)) (hg : wa.grownBy wb v2.ownBlock)
    (hv : v2'.ownBlock = some g1) (hat : v2.ownBlock = some g1 ∨ g1 = wa.heap.size) : RC W wb T Q v1 v2' nl (tl ++ [t]) (cs ++ tcs t An cn A c) := by
  have key : ∀ g, fr3 W.heap.size T Q v1 v2 g → g < wa.heap.size → wb.heap[g]? = wa.heap[g]? ∧ fr3 W.heap.size T Q v1 v2' g := fun g hp hl => by
    refine ⟨hg.block g hl fun e => hp.2.2.2 e.symm, hp.1, hp.2.1, hp.2.2.1, fun e => ?_⟩
    rw [hv] at e
    injection e with e
    subst e
    rcases hat with h | h
    · exact hp.2.2.2 h
    · omega
  exact ⟨own_keep h.o1 hg (own_apart h.o1 h.o2 (by omega)), by simpa using hown, TL.app _ _ (TL.keep hg.size key _ _ h.tl) (TL.one (ht.keep hg.size key)), h.fr.grown hg h.fr.size (fun k hk => (h.o2.lt k hk).1)⟩
theorem RC.out (h : RC W wa T Q v1 v2 nl tl cs) (hz : ∀ s ∈ nl, s.size ≤ 140737488351232) (hT : T < W.heap.size) (k : Int) : ∃ An cn A c, v1 = .slice An nl.length cn ∧ v2 = .slice A tl.length c ∧ TI wa (fun g => (Q g ∨ W.heap.size ≤ g) ∧ g ≠ T) (.mk k nl tl) An cn A c := by
  obtain ⟨An, cn, e1, c1⟩ := own_shape h.o1
  obtain ⟨A, c, e2, c2⟩ := own_shape h.o2
  have o1 := h.o1
  have o2 := h.o2
  rw [e1] at o1
  rw [e2] at o2
  exact ⟨An, cn, A, c, e1, e2, TI_iff.2 ⟨NV.of_own o1 rfl hz (fun g hg _ => ⟨.inr hg, by omega⟩) c1, TV.of_own o2 rfl h.tl (fun g hg => ⟨hg.1, hg.2.1⟩) (fun g hg _ => ⟨.inr hg, by omega⟩) c2⟩⟩
end
set_option maxHeartbeats 16000000 in
set_option maxRecDepth 100000 in
theorem comrec_any (w : World) (an bn : List ByteArray) (ap bp : List Ty) (P P' : Nat → Prop) (An : Option Addr) (cn : Nat) (A : Option Addr) (c : Nat) (Bn : Option Addr) (dn : Nat) (B : Option Addr) (d : Nat)
    (hAn : NV w P an An cn) (hA : TV w P ap A c) (hBn : NV w P' bn Bn dn) (hB : TV w P' bp B d) (ra : (Ty.mk 3 an ap).right = true) (rb : (Ty.mk 3 bn bp).right = true) (la : an.length ≤ 1000001) (lb : bp.length ≤ 1000001) (I1 : ComIH bp ap) :
    Calls Tryz.prog 81 #[.agg #[.int .i64 3, .slice Bn bn.length dn, .slice B bp.length d], .agg #[.int .i64 3, .slice An an.length cn, .slice A ap.length c]] w (MadeQ (fun g => (P' g ∨ P g) ∨ w.heap.size ≤ g) (recOf (comR com an ap bn bp)) w) := by
  have hlb : bn.length = bp.length := (right_rec rb rfl).1
  rw [hlb]
  replace hAn := hAn.low
  replace hA := hA.low
  replace hBn := hBn.low
  replace hB := hB.low
  obtain ⟨n, hn⟩ : ∃ n, n = bp.length := ⟨_, rfl⟩
  rw [← hn]
  have hn1 : n ≤ 1000001 := by omega
  obtain ⟨S, hS⟩ : ∃ S, S = w.heap.size := ⟨_, rfl⟩
  have b1 := bel1 w (.cells (tarr 3 Bn n dn B n d) 25)
  obtain ⟨w1, h1⟩ : ∃ w1, w1 = w.alloc (.cells (tarr 3 Bn n dn B n d) 25) := ⟨_, rfl⟩
  have s1 : w1.heap.size = S + 1 := by rw [h1, hS]; simp
  have R1 : RowB w1 S 25 (tarr 3 Bn n dn B n d) := by rw [h1, hS]; exact RowB.new w 25 _
  rw [← h1] at b1
  obtain ⟨w2, h2⟩ : ∃ w2, w2 = w1.alloc (.cells (tarr 3 An an.length cn A ap.length c) 25) := ⟨_, rfl⟩
  have b2 : Below w1.heap.size w1 w2 := by rw [h2]; exact bel1 w1 _
  have s2 : w2.heap.size = S + 2 := by rw [h2]; simp [s1]
  have R2 : RowB w2 (S + 1) 25 (tarr 3 An an.length cn A ap.length c) := by rw [h2, ← s1]; exact RowB.new w1 25 _
  obtain ⟨w3, h3⟩ : ∃ w3, w3 = w2.alloc (.cells tzc 25) := ⟨_, rfl⟩
  have b3 : Below w2.heap.size w2 w3 := by rw [h3]; exact bel1 w2 _
  have s3 : w3.heap.size = S + 3 := by rw [h3]; simp [s2]
  have R3 : RowB w3 (S + 2) 25 tzc := by rw [h3, ← s2]; exact RowB.new w2 25 _
  obtain ⟨w4, h4⟩ : ∃ w4, w4 = w3.alloc (.cells #[.int .i64 3, .slice none 0 0, .slice none 0 0] 25) := ⟨_, rfl⟩
  have b4 : Below w3.heap.size w3 w4 := by rw [h4]; exact bel1 w3 _
  have s4 : w4.heap.size = S + 4 := by rw [h4]; simp [s3]
  have R4 : RowB w4 (S + 3) 25 #[.int .i64 3, .slice none 0 0, .slice none 0 0] := by rw [h4, ← s3]; exact RowB.new w3 25 _
  have b34 := b3.trans (b4.mono b3.size)
  have b24 := b2.trans (b34.mono b2.size)
  have b14 := b1.trans (b24.mono b1.size)
  have R10 := Lib.hid (R1.below b24 R1.lt)
  have R20 := Lib.hid (R2.below b34 R2.lt)
  have R30 := Lib.hid (R3.below b4 R3.lt)
  have R40 := Lib.hid R4
  have HB0 := Lib.hid b14
  have HNA := Lib.hid (hAn.below b14)
  have HTA := Lib.hid (hA.below b14)
  have HNB := Lib.hid (hBn.below b14)
  have HTB := Lib.hid (hB.below b14)
  have E : Hid (w4 = (((w.alloc (.cells (tarr 3 Bn n dn B n d) 25)).alloc (.cells (tarr 3 An an.length cn A ap.length c) 25)).alloc (.cells tzc 25)).alloc (.cells #[.int .i64 3, .slice none 0 0, .slice none 0 0] 25)) := by unfold Hid; rw [h4, h3, h2, h1]
  have HS4 := Lib.hid s4
  have HS := Lib.hid hS
  rw [hS] at R10 R20 R30 R40
  have C1 := Lib.hid (plabels_any w4 3 Bn n dn B n d rfl)
  have H1 := Lib.hid I1
  have HRA : Hid ((Ty.mk 3 an ap).right = true) := ra
  have HL : Hid (an.length ≤ 1000001 ∧ n = bn.length ∧ n = bp.length) := ⟨la, by omega, hn⟩
  have r1 := R10.out.cell
  have e1 := E.out
  clear b1 b2 b3 b4 b34 b24 b14 s1 s2 s3 s4 h1 h2 h3 h4 R1 R2 R3 R4 E hAn hA hBn hB I1 ra rb la lb hn hlb w1 w2 w3
  go_enter Tryz.func81, Tryz.ntmps81
  go_wp2_with fail
  rw [← e1]
  refine C1.out.mono ?_
  rintro e W ⟨rfl, h1⟩
  have HBW := Lib.hid (HB0.out.trans (h1.mono HB0.out.size))
  have R3 := Lib.hid (R20.out.below h1 R20.out.lt)
  have R4 := Lib.hid (R10.out.below h1 R10.out.lt)
  have RR := Lib.hid (R30.out.below h1 R30.out.lt)
  have RT0 := Lib.hid (R40.out.below h1 R40.out.lt)
  have HNA1 := Lib.hid (HNA.out.below h1)
  have HTA1 := Lib.hid (HTA.out.below h1)
  have HNB1 := Lib.hid (HNB.out.below h1)
  have HTB1 := Lib.hid (HTB.out.below h1)
  have HWS : Hid (w.heap.size + 4 ≤ W.heap.size) := by unfold Hid; have := h1.size; rw [HS4.out, HS.out] at this; exact this
  clear h1 C1 r1 e1 R10 R20 R30 R40 HNA HTA HNB HTB HB0 HS4 HS hS
  go_wp2_with fail
  go_loopg [12] (n + 1) (fun kx s12 wr => ∃ i : Nat, s12 = .int .i64 i ∧ n - i ≤ kx ∧ i ≤ n ∧ Hid (∃ v1 v2 cs, RC W wr (w.heap.size + 3) (fun g => (P' g ∨ P g) ∧ g < w.heap.size) v1 v2 ((comR com an ap (bn.take i) (bp.take i)).map Prod.fst) ((comR com an ap (bn.take i) (bp.take i)).map Prod.snd) cs ∧ RowB wr (w.heap.size + 3) 25 #[.int .i64 3, v1, v2]))
  case atStart => exact ⟨0, rfl, by omega, by omega, ⟨_, _, _, RC.start W _ _, RT0.out⟩⟩
  case round =>
    obtain ⟨i, rfl, hkx, hin, HX⟩ := hrel
    by_cases hi : i < n
    · have hil : (i : Int) < (n : Int) := by omega
      obtain ⟨x1, x2, cs, hrc, hrow⟩ := HX.out
      have hT4 := HWS.out
      have hfb : ∀ g, g < w.heap.size → wr.heap[g]? = W.heap[g]? := fun g hg => hrc.fr.block g (by omega) (by omega)
      have HNBr : Hid (NV wr (fun g => P' g ∧ g < w.heap.size) bn Bn dn) := HNB1.out.keep hrc.fr.size fun g hg _ => ⟨hfb g hg.2, hg⟩
      have HTBr : Hid (TV wr (fun g => P' g ∧ g < w.heap.size) bp B d) := HTB1.out.keep hrc.fr.size fun g hg _ => ⟨hfb g hg.2, hg⟩
      have HNAr : Hid (NV wr (fun g => P g ∧ g < w.heap.size) an An cn) := HNA1.out.keep hrc.fr.size fun g hg _ => ⟨hfb g hg.2, hg⟩
      have HTAr : Hid (TV wr (fun g => P g ∧ g < w.heap.size) ap A c) := HTA1.out.keep hrc.fr.size fun g hg _ => ⟨hfb g hg.2, hg⟩
      have X3r : RowB wr (w.heap.size + 1) 25 (tarr 3 An an.length cn A ap.length c) := hrc.fr.row R3.out (by omega) (by omega)
      have X4r : RowB wr w.heap.size 25 (tarr 3 Bn n dn B n d) := hrc.fr.row R4.out (by omega) (by omega)
      have HRC := Lib.hid hrc
      have HROWr := Lib.hid hrow
      clear hrc hrow hfb hT4
      obtain ⟨s, e⟩ := get_lt (l := bn) (i := i) (by rw [← HL.out.2.1]; exact hi)
      obtain ⟨t, e'⟩ := get_lt (l := bp) (i := i) (by rw [← HL.out.2.2]; exact hi)
      obtain ⟨g0, o0, hA0, hPg0, hg0, y0, hz0⟩ := HNBr.out.nth e
      obtain ⟨g, o, Bn2, dn2, B2, d2, hB2, hP, hg, hti, v0, v1, v2⟩ := HTBr.out.nth e'
      have X3 := Lib.hid (X3r)
      have X4 := Lib.hid (X4r)
      have HE := Lib.hid e
      have HE' := Lib.hid e'
      have D0 : Hid (Below wr.heap.size wr wr.drew) := Below.drew (Below.refl _ _)
      have CF : Hid (∀ w', Below wr.heap.size wr w' → Calls Tryz.prog 22 #[.agg #[.int .i64 3, .slice An an.length cn, .slice A ap.length c], .string s] w' (FieldQ (fun g => (P g ∧ g < w.heap.size) ∧ g < wr.heap.size) ((Ty.mk 3 an ap).field s) w')) := fun w' hb => pfield_any w' 3 an ap s _ An cn A c (HNAr.out.low.below hb) (HTAr.out.low.below hb) HL.out.1 HRA.out
      have D1 : Hid (Below wr.heap.size wr (wr.alloc (.cells #[.int .i64 0, .slice none 0 0, .slice none 0 0] 25)).drew) := Below.drew (bel1 wr _)
      obtain ⟨q, hq⟩ : ∃ q, q = (Ty.mk 3 an ap).field s := ⟨_, rfl⟩
      have hq2 : Hid (q = lk an ap s) := by unfold Hid; rw [hq]; rfl
      rw [← hq] at CF
      have HTI := Lib.hid hti
      have z3 := X3.out.cell
      have z4 := X4.out.cell
      have RD : Hid (RowB (wr.alloc (.cells #[.int .i64 0, .slice none 0 0, .slice none 0 0] 25)).drew wr.heap.size 25 #[.int .i64 0, .slice none 0 0, .slice none 0 0]) := RowB.new wr 25 _
      have zd3 : ∀ j, (wr.alloc (.cells #[.int .i64 0, .slice none 0 0, .slice none 0 0] 25)).drew.cell? ⟨w.heap.size + 1, j, none⟩ = (tarr 3 An an.length cn A ap.length c)[j]? := (X3.out.alloc _).cell
      have zd4 : ∀ j, (wr.alloc (.cells #[.int .i64 0, .slice none 0 0, .slice none 0 0] 25)).drew.cell? ⟨w.heap.size, j, none⟩ = (tarr 3 Bn n dn B n d)[j]? := (X4.out.alloc _).cell
      have yd0 : (wr.alloc (.cells #[.int .i64 0, .slice none 0 0, .slice none 0 0] 25)).drew.cell? ⟨g0, o0 + i, none⟩ = some (.string s) := (D1.out.cell (p := ⟨g0, o0 + i, none⟩) hg0).trans y0
      have HBX := Lib.hid hB2
      subst hA0
      have HPG0 := Lib.hid hPg0
      have HPG := Lib.hid hP
      clear e e' hti hq hB2 X3r X4r hPg0 hP
      have HS0 : (∀ j, wr.drew.cell? ⟨w.heap.size + 1, j, none⟩ = (tarr 3 An an.length cn A ap.length c)[j]?) ∧ (∀ j, wr.drew.cell? ⟨w.heap.size, j, none⟩ = (tarr 3 (some ⟨g0, o0, none⟩) n dn B n d)[j]?) ∧ wr.drew.cell? ⟨g0, o0 + i, none⟩ = some (.string s) := ⟨z3, z4, y0⟩
      have HD0 : (∀ j, (wr.alloc (.cells #[.int .i64 0, .slice none 0 0, .slice none 0 0] 25)).drew.cell? ⟨w.heap.size + 1, j, none⟩ = (tarr 3 An an.length cn A ap.length c)[j]?) ∧ (∀ j, (wr.alloc (.cells #[.int .i64 0, .slice none 0 0, .slice none 0 0] 25)).drew.cell? ⟨w.heap.size, j, none⟩ = (tarr 3 (some ⟨g0, o0, none⟩) n dn B n d)[j]?) ∧ (wr.alloc (.cells #[.int .i64 0, .slice none 0 0, .slice none 0 0] 25)).drew.cell? ⟨g0, o0 + i, none⟩ = some (.string s) := ⟨zd3, zd4, yd0⟩
      clear z3 z4 zd3 zd4 yd0
      go_wp2_with fail
      go_upto_region 5 with fail
      go_cut [7, 8] from 15 to 48 (fun s7 s8 wx => CutR wr (fun g => P g ∧ g < w.heap.size) q s7 s8 wx)
      case first =>
        cases q with
        | none =>
          go_region_held3 (fun w' => (∀ j, w'.cell? ⟨w.heap.size + 1, j, none⟩ = (tarr 3 An an.length cn A ap.length c)[j]?) ∧ (∀ j, w'.cell? ⟨w.heap.size, j, none⟩ = (tarr 3 (some ⟨g0, o0, none⟩) n dn B n d)[j]?) ∧ w'.cell? ⟨g0, o0 + i, none⟩ = some (.string s))
            (first
              | (with_reducible exact HS1)
              | (with_reducible exact HD0)
              | (with_reducible exact HS0)
              | (exact HK _)
              | (exact HP _ _ _)
              | fail)
            (first
            | (go_at_call 22; refine (CF.out wr.drew D0.out).mono ?_; rintro e w2 ⟨h2, rfl⟩; have HS1 : (∀ j, w2.cell? ⟨w.heap.size + 1, j, none⟩ = (tarr 3 An an.length cn A ap.length c)[j]?) ∧ (∀ j, w2.cell? ⟨w.heap.size, j, none⟩ = (tarr 3 (some ⟨g0, o0, none⟩) n dn B n d)[j]?) ∧ w2.cell? ⟨g0, o0 + i, none⟩ = some (.string s) := ⟨fun j => (h2.cell (p := ⟨w.heap.size + 1, j, none⟩) X3.out.lt).trans (HS0.1 j), fun j => (h2.cell (p := ⟨w.heap.size, j, none⟩) X4.out.lt).trans (HS0.2.1 j), (h2.cell (p := ⟨g0, o0 + i, none⟩) hg0).trans HS0.2.2⟩; have HK : ∀ cs : Array Value, (∀ j, (w2.alloc (.cells cs 25)).cell? ⟨w.heap.size + 1, j, none⟩ = (tarr 3 An an.length cn A ap.length c)[j]?) ∧ (∀ j, (w2.alloc (.cells cs 25)).cell? ⟨w.heap.size, j, none⟩ = (tarr 3 (some ⟨g0, o0, none⟩) n dn B n d)[j]?) ∧ (w2.alloc (.cells cs 25)).cell? ⟨g0, o0 + i, none⟩ = some (.string s) := fun cs => ⟨fun j => ((bel1 w2 (.cells cs 25)).cell (p := ⟨w.heap.size + 1, j, none⟩) (Nat.lt_of_lt_of_le X3.out.lt h2.size)).trans (HS1.1 j), fun j => ((bel1 w2 (.cells cs 25)).cell (p := ⟨w.heap.size, j, none⟩) (Nat.lt_of_lt_of_le X4.out.lt h2.size)).trans (HS1.2.1 j), ((bel1 w2 (.cells cs 25)).cell (p := ⟨g0, o0 + i, none⟩) (Nat.lt_of_lt_of_le hg0 h2.size)).trans HS1.2.2⟩)
            | (go_at_call 22; refine (CF.out (wr.alloc (.cells #[.int .i64 0, .slice none 0 0, .slice none 0 0] 25)).drew D1.out).mono ?_; rintro e w2 ⟨h2, rfl⟩; have rx := RD.out.below h2 RD.out.lt; have ry := rx.cell; have rz := rx.thaw; have HS1 : (∀ j, w2.cell? ⟨w.heap.size + 1, j, none⟩ = (tarr 3 An an.length cn A ap.length c)[j]?) ∧ (∀ j, w2.cell? ⟨w.heap.size, j, none⟩ = (tarr 3 (some ⟨g0, o0, none⟩) n dn B n d)[j]?) ∧ w2.cell? ⟨g0, o0 + i, none⟩ = some (.string s) := ⟨fun j => (h2.cell (p := ⟨w.heap.size + 1, j, none⟩) (Nat.lt_of_lt_of_le X3.out.lt D1.out.size)).trans (HD0.1 j), fun j => (h2.cell (p := ⟨w.heap.size, j, none⟩) (Nat.lt_of_lt_of_le X4.out.lt D1.out.size)).trans (HD0.2.1 j), (h2.cell (p := ⟨g0, o0 + i, none⟩) (Nat.lt_of_lt_of_le hg0 D1.out.size)).trans HD0.2.2⟩; have HP : ∀ e1 e2 e3, (∀ j, (((w2.setCell ⟨wr.heap.size, 0, none⟩ e1).setCell ⟨wr.heap.size, 1, none⟩ e2).setCell ⟨wr.heap.size, 2, none⟩ e3).cell? ⟨w.heap.size + 1, j, none⟩ = (tarr 3 An an.length cn A ap.length c)[j]?) ∧ (∀ j, (((w2.setCell ⟨wr.heap.size, 0, none⟩ e1).setCell ⟨wr.heap.size, 1, none⟩ e2).setCell ⟨wr.heap.size, 2, none⟩ e3).cell? ⟨w.heap.size, j, none⟩ = (tarr 3 (some ⟨g0, o0, none⟩) n dn B n d)[j]?) ∧ (((w2.setCell ⟨wr.heap.size, 0, none⟩ e1).setCell ⟨wr.heap.size, 1, none⟩ e2).setCell ⟨wr.heap.size, 2, none⟩ e3).cell? ⟨g0, o0 + i, none⟩ = some (.string s) := fun e1 e2 e3 => ⟨fun j => ((below_put3 (Below.refl wr.heap.size w2) (Nat.le_refl _) e1 e2 e3).cell (p := ⟨w.heap.size + 1, j, none⟩) X3.out.lt).trans (HS1.1 j), fun j => ((below_put3 (Below.refl wr.heap.size w2) (Nat.le_refl _) e1 e2 e3).cell (p := ⟨w.heap.size, j, none⟩) X4.out.lt).trans (HS1.2.1 j), ((below_put3 (Below.refl wr.heap.size w2) (Nat.le_refl _) e1 e2 e3).cell (p := ⟨g0, o0 + i, none⟩) hg0).trans HS1.2.2⟩)
            | fail)
          all_goals
            go_wp2_with fail
            go_meet
            first
              | exact ⟨_, none, 0, none, 0, rfl, rfl, h2.size, RowB.new w2 25 _, (D0.out.trans (h2.mono D0.out.size)).trans ((bel1 w2 _).mono (D0.out.trans (h2.mono D0.out.size)).size), fun p hp => by cases hp⟩
              | exact ⟨_, none, 0, none, 0, rfl, rfl, Nat.le_refl _, ((rx.put 0 _).put 1 _).put 2 _, below_put3 (D1.out.trans (h2.mono D1.out.size)) (Nat.le_refl _) _ _ _, fun p hp => by cases hp⟩
        | some p =>
          obtain ⟨kp, np, pp⟩ := p
          go_region_held3 (fun w' => (∀ j, w'.cell? ⟨w.heap.size + 1, j, none⟩ = (tarr 3 An an.length cn A ap.length c)[j]?) ∧ (∀ j, w'.cell? ⟨w.heap.size, j, none⟩ = (tarr 3 (some ⟨g0, o0, none⟩) n dn B n d)[j]?) ∧ w'.cell? ⟨g0, o0 + i, none⟩ = some (.string s))
            (first
              | (with_reducible exact HS1)
              | (with_reducible exact HD0)
              | (with_reducible exact HS0)
              | (exact HK _)
              | (exact HP _ _ _)
              | fail)
            (first
            | (go_at_call 22; refine (CF.out wr.drew D0.out).mono ?_; rintro e w2 ⟨h2, An3, cn3, A3, c3, rfl, ht3⟩; have HS1 : (∀ j, w2.cell? ⟨w.heap.size + 1, j, none⟩ = (tarr 3 An an.length cn A ap.length c)[j]?) ∧ (∀ j, w2.cell? ⟨w.heap.size, j, none⟩ = (tarr 3 (some ⟨g0, o0, none⟩) n dn B n d)[j]?) ∧ w2.cell? ⟨g0, o0 + i, none⟩ = some (.string s) := ⟨fun j => (h2.cell (p := ⟨w.heap.size + 1, j, none⟩) X3.out.lt).trans (HS0.1 j), fun j => (h2.cell (p := ⟨w.heap.size, j, none⟩) X4.out.lt).trans (HS0.2.1 j), (h2.cell (p := ⟨g0, o0 + i, none⟩) hg0).trans HS0.2.2⟩; have HK : ∀ cs : Array Value, (∀ j, (w2.alloc (.cells cs 25)).cell? ⟨w.heap.size + 1, j, none⟩ = (tarr 3 An an.length cn A ap.length c)[j]?) ∧ (∀ j, (w2.alloc (.cells cs 25)).cell? ⟨w.heap.size, j, none⟩ = (tarr 3 (some ⟨g0, o0, none⟩) n dn B n d)[j]?) ∧ (w2.alloc (.cells cs 25)).cell? ⟨g0, o0 + i, none⟩ = some (.string s) := fun cs => ⟨fun j => ((bel1 w2 (.cells cs 25)).cell (p := ⟨w.heap.size + 1, j, none⟩) (Nat.lt_of_lt_of_le X3.out.lt h2.size)).trans (HS1.1 j), fun j => ((bel1 w2 (.cells cs 25)).cell (p := ⟨w.heap.size, j, none⟩) (Nat.lt_of_lt_of_le X4.out.lt h2.size)).trans (HS1.2.1 j), ((bel1 w2 (.cells cs 25)).cell (p := ⟨g0, o0 + i, none⟩) (Nat.lt_of_lt_of_le hg0 h2.size)).trans HS1.2.2⟩)
            | (go_at_call 22; refine (CF.out (wr.alloc (.cells #[.int .i64 0, .slice none 0 0, .slice none 0 0] 25)).drew D1.out).mono ?_; rintro e w2 ⟨h2, An3, cn3, A3, c3, rfl, ht3⟩; have rx := RD.out.below h2 RD.out.lt; have ry := rx.cell; have rz := rx.thaw; have HS1 : (∀ j, w2.cell? ⟨w.heap.size + 1, j, none⟩ = (tarr 3 An an.length cn A ap.length c)[j]?) ∧ (∀ j, w2.cell? ⟨w.heap.size, j, none⟩ = (tarr 3 (some ⟨g0, o0, none⟩) n dn B n d)[j]?) ∧ w2.cell? ⟨g0, o0 + i, none⟩ = some (.string s) := ⟨fun j => (h2.cell (p := ⟨w.heap.size + 1, j, none⟩) (Nat.lt_of_lt_of_le X3.out.lt D1.out.size)).trans (HD0.1 j), fun j => (h2.cell (p := ⟨w.heap.size, j, none⟩) (Nat.lt_of_lt_of_le X4.out.lt D1.out.size)).trans (HD0.2.1 j), (h2.cell (p := ⟨g0, o0 + i, none⟩) (Nat.lt_of_lt_of_le hg0 D1.out.size)).trans HD0.2.2⟩; have HP : ∀ e1 e2 e3, (∀ j, (((w2.setCell ⟨wr.heap.size, 0, none⟩ e1).setCell ⟨wr.heap.size, 1, none⟩ e2).setCell ⟨wr.heap.size, 2, none⟩ e3).cell? ⟨w.heap.size + 1, j, none⟩ = (tarr 3 An an.length cn A ap.length c)[j]?) ∧ (∀ j, (((w2.setCell ⟨wr.heap.size, 0, none⟩ e1).setCell ⟨wr.heap.size, 1, none⟩ e2).setCell ⟨wr.heap.size, 2, none⟩ e3).cell? ⟨w.heap.size, j, none⟩ = (tarr 3 (some ⟨g0, o0, none⟩) n dn B n d)[j]?) ∧ (((w2.setCell ⟨wr.heap.size, 0, none⟩ e1).setCell ⟨wr.heap.size, 1, none⟩ e2).setCell ⟨wr.heap.size, 2, none⟩ e3).cell? ⟨g0, o0 + i, none⟩ = some (.string s) := fun e1 e2 e3 => ⟨fun j => ((below_put3 (Below.refl wr.heap.size w2) (Nat.le_refl _) e1 e2 e3).cell (p := ⟨w.heap.size + 1, j, none⟩) X3.out.lt).trans (HS1.1 j), fun j => ((below_put3 (Below.refl wr.heap.size w2) (Nat.le_refl _) e1 e2 e3).cell (p := ⟨w.heap.size, j, none⟩) X4.out.lt).trans (HS1.2.1 j), ((below_put3 (Below.refl wr.heap.size w2) (Nat.le_refl _) e1 e2 e3).cell (p := ⟨g0, o0 + i, none⟩) hg0).trans HS1.2.2⟩)
            | fail)
          all_goals
            go_wp2_with fail
            go_meet
            first
              | exact ⟨_, An3, cn3, A3, c3, rfl, rfl, h2.size, RowB.new w2 25 _, (D0.out.trans (h2.mono D0.out.size)).trans ((bel1 w2 _).mono (D0.out.trans (h2.mono D0.out.size)).size), fun p hp => by injection hp with hp; subst hp; exact ht3.stay ((bel1 w2 _).mono h2.size)⟩
              | exact ⟨_, An3, cn3, A3, c3, rfl, rfl, Nat.le_refl _, ((rx.put 0 _).put 1 _).put 2 _, below_put3 (D1.out.trans (h2.mono D1.out.size)) (Nat.le_refl _) _ _ _, fun p hp => by injection hp with hp; subst hp; exact ht3.stay (below_put3 (Below.refl _ w2) (Nat.le_refl _) _ _ _)⟩
      case rest =>
      obtain ⟨H, An3, cn3, A3, c3, rfl, rfl, hH, hrow, hbx, htx⟩ := hcut
      obtain ⟨j, hj⟩ : ∃ j, j = i + 1 := ⟨_, rfl⟩
      have hB3 := HBX.out
      have hct := comR_take (f := com) (bn := an) (bp := ap) HE.out HE'.out
      rw [← hj, ← hq2.out] at hct
      have HCT := Lib.hid hct
      have QC := HRC.out.below hbx
      have TC := HROWr.out.below hbx HROWr.out.lt
      clear HS0 HD0 D0 D1 RD CF hct
      cases q with
      | none =>
        simp only [List.append_nil] at HCT
        have HN2 : Hid (∃ v1 v2 cs, RC W wc (w.heap.size + 3) (fun g => (P' g ∨ P g) ∧ g < w.heap.size) v1 v2 ((comR com an ap (bn.take j) (bp.take j)).map Prod.fst) ((comR com an ap (bn.take j) (bp.take j)).map Prod.snd) cs ∧ RowB wc (w.heap.size + 3) 25 #[.int .i64 3, v1, v2]) := by
          unfold Hid
          rw [HCT.out]
          exact ⟨x1, x2, cs, QC, TC⟩
        have hf1 : (Option.none : Option Ty).isSome = false := rfl
        clear QC TC hrow htx hbx HCT v0 v1 v2
        subst hB3
        go_wp2_with fail
        go_roundg (n - j)
        case measure => omega
        case rel => exact ⟨j, by rw [hj]; go_num, by omega, by omega, HN2.out⟩
      | some p =>
        have hf1 : (some p).isSome = true := rfl
        obtain ⟨kp, np, pp⟩ := p
        have HQ2 := Lib.hid hq2.out
        have hP := HPG.out
        have hPg0 := HPG0.out
        have hT4 := HWS.out
        have hWr := HRC.out.fr.size
        have hWc := hbx.size
        have hTW : w.heap.size + 3 < W.heap.size := by omega
        have hQl : ∀ g, ((P' g ∨ P g) ∧ g < w.heap.size) → g < W.heap.size ∧ g ≠ w.heap.size + 3 := fun g hg => ⟨by omega, by omega⟩
        have yW : W.cell? ⟨g0, o0 + i, none⟩ = some (.string s) := (HRC.out.fr.cell (p := ⟨g0, o0 + i, none⟩) (by show g0 < W.heap.size; omega) (by show g0 ≠ w.heap.size + 3; omega)).symm.trans y0
        have zW0 : W.cell? ⟨g, o + i * 3, none⟩ = some (.int .i64 t.kind) := (HRC.out.fr.cell (p := ⟨g, o + i * 3, none⟩) (by show g < W.heap.size; omega) (by show g ≠ w.heap.size + 3; omega)).symm.trans v0
        have zW1 : W.cell? ⟨g, o + i * 3 + 1, none⟩ = some (.slice Bn2 t.names.length dn2) := (HRC.out.fr.cell (p := ⟨g, o + i * 3 + 1, none⟩) (by show g < W.heap.size; omega) (by show g ≠ w.heap.size + 3; omega)).symm.trans v1
        have zW2 : W.cell? ⟨g, o + i * 3 + 2, none⟩ = some (.slice B2 t.parts.length d2) := (HRC.out.fr.cell (p := ⟨g, o + i * 3 + 2, none⟩) (by show g < W.heap.size; omega) (by show g ≠ w.heap.size + 3; omega)).symm.trans v2
        have hlt0 : g0 < W.heap.size := by omega
        have hne0 : g0 ≠ w.heap.size + 3 := by omega
        have hlt1 : g < W.heap.size := by omega
        have hne1 : g ≠ w.heap.size + 3 := by omega
        have hlt2 : w.heap.size < W.heap.size := by omega
        have hne2 : w.heap.size ≠ w.heap.size + 3 := by omega
        subst hB3
        have q4 := R4.out.cell
        have hHT : H ≠ w.heap.size + 3 := by omega
        have eH1 : (some H : Option Nat) ≠ x1.ownBlock := fun e => by have := (HRC.out.o1.lt _ e.symm).2; omega
        have eH2 : (some H : Option Nat) ≠ x2.ownBlock := fun e => by have := (HRC.out.o2.lt _ e.symm).2; omega
        have eT1 : (some (w.heap.size + 3) : Option Nat) ≠ x1.ownBlock := fun e => by have := (HRC.out.o1.lt _ e.symm).1; omega
        have eT2 : (some (w.heap.size + 3) : Option Nat) ≠ x2.ownBlock := fun e => by have := (HRC.out.o2.lt _ e.symm).1; omega
        have hTIc := HTI.out.below hbx
        have hTXc := htx _ rfl
        have hnl := comR_len (f := com) (bn := an) (bp := ap) (bn.take i) (bp.take i)
        have hnl2 : (comR com an ap (bn.take i) (bp.take i)).length ≤ 1000001 := by rw [List.length_take] at hnl; omega
        have hm := lk_mem hq2.out.symm
        have CIH : Hid (ComIH [t] [.mk kp np pp]) := fun x hx y hy => by
          obtain rfl : x = t := by simpa using hx
          obtain rfl : y = .mk kp np pp := by simpa using hy
          exact H1.out _ (List.mem_of_getElem? HE'.out) _ hm.1
        obtain ⟨nl, hnlE⟩ : ∃ nl, nl = (comR com an ap (bn.take i) (bp.take i)).map Prod.fst := ⟨_, rfl⟩
        obtain ⟨tl, htlE⟩ : ∃ tl, tl = (comR com an ap (bn.take i) (bp.take i)).map Prod.snd := ⟨_, rfl⟩
        have hl1 : nl.length ≤ 1000001 := by rw [hnlE, List.length_map]; exact hnl2
        have hl2 : tl.length ≤ 1000001 := by rw [htlE, List.length_map]; exact hnl2
        have HN1 : Hid ((comR com an ap (bn.take j) (bp.take j)).map Prod.fst = nl ++ [s]) := by unfold Hid; rw [HCT.out, hnlE]; simp
        have HN2 : Hid ((comR com an ap (bn.take j) (bp.take j)).map Prod.snd = tl ++ [com t (.mk kp np pp)]) := by unfold Hid; rw [HCT.out, htlE]; simp
        rw [← hnlE, ← htlE] at QC
        have HQC := Lib.hid QC
        have HTC := Lib.hid TC
        have HRH : Hid (RowB wc H 25 #[.int .i64 kp, .slice An3 np.length cn3, .slice A3 pp.length c3]) := hrow
        have HTIC := Lib.hid hTIc
        have HTXC := Lib.hid hTXc
        obtain ⟨kt, nt, pt⟩ := t
        simp only [kind_mk, names_mk, parts_mk] at zW0 zW1 zW2
        clear QC TC hrow htx hbx HCT v0 v1 v2 hTIc hTXc hnl hnl2 hm hnlE htlE y0 hq2 HQ2 HTI X3 X4 HROWr HRC hP hPg0 HX HNBr HTBr HNAr HTAr hz0
        go_upto_region 7 with fail
        obtain ⟨i9, hi9, hz9, hs9, hb9⟩ := info_parts info9
        obtain ⟨iT, hiT, hzT, hsT, hbT⟩ := info_parts infoT
        have A0 := HQC.out.below (Below.drew (Below.refl wc.heap.size wc))
        have RT0' : RowB wc.drew (w.heap.size + 3) 25 #[.int .i64 3, x1, x2] := HTC.out
        have A1 := HQC.out.below (Below.drew (bel1 wc (.cells #[Value.string s] 9)))
        have RT1 : RowB (wc.alloc (.cells #[Value.string s] 9)).drew (w.heap.size + 3) 25 #[.int .i64 3, x1, x2] := HTC.out.alloc _
        have RX1 : RowB (wc.alloc (.cells #[Value.string s] 9)).drew wc.heap.size 9 #[Value.string s] := RowB.new wc 9 _
        have RH1 : RowB (wc.alloc (.cells #[Value.string s] 9)).drew H 25 #[.int .i64 kp, .slice An3 np.length cn3, .slice A3 pp.length c3] := HRH.out.alloc _
        have b1 : nl.length + 1 ≤ maxLen := by unfold maxLen; omega
        have b2 : (nl.length + 1) * 16 ≤ 140737488355328 := by omega
        have b3 : tl.length + 1 ≤ maxLen := by unfold maxLen; omega
        have b4 : (tl.length + 1) * 56 ≤ 140737488355328 := by omega
        have oc1 : ∀ u ∈ [Value.string s], u.oneCell' = true := by simp [Value.oneCell']
        have hsz1 : W.heap.size ≤ (wc.alloc (.cells #[Value.string s] 9)).drew.heap.size := A1.fr.size
        refine wp_region_G (S := SG (fun w' => Fr (w.heap.size + 3) W.heap.size W w') 8 (fun w' => w'.cell? ⟨w.heap.size + 3, 1, none⟩ = some x1) 8 (fun _ => True)) (by kernel_rfl) ⟨A0.fr, fun _ => RT0'.cell 1, fun _ => trivial⟩ (fun hS => ?_)
        refine wpG_take0 (i := 0) (v := ?v1) rfl (by kernel_rfl) (by kernel_rfl) (by kernel_rfl) (by decide) (by decide) (fun _ _ _ h => h) hS (Or.inl ⟨by rfl, ?hy1⟩) ?rest1
        case hy1 => (intro w' hw; have u0 := (hw.cell (p := ⟨w.heap.size, 1, none⟩) hlt2 hne2).trans (q4 1); have u1 := (hw.cell (p := ⟨g0, o0 + i, none⟩) hlt0 hne0).trans yW; go_simp; try with_reducible rfl)
        replace hS := SG.set (i := 0) (by decide) (by decide) hS
        try simp only [Act.put, List.setIfInBounds_toArray, List.set_cons_zero, List.set_cons_succ]
        refine wpG_take1 (i := 1) (v := ?v2) rfl (by kernel_rfl) (by kernel_rfl) (by kernel_rfl) (by decide) (by decide) (by kernel_rfl) (by kernel_rfl) (fun _ _ _ h => h) hS (Or.inl ⟨by rfl, ?hy2⟩) ?rest2
        case hy2 => (intro w' hw; obtain ⟨hw, u9⟩ := hw; have u0 := (hw.cell (p := ⟨w.heap.size, 1, none⟩) hlt2 hne2).trans (q4 1); have u1 := (hw.cell (p := ⟨g0, o0 + i, none⟩) hlt0 hne0).trans yW; go_simp; try with_reducible rfl)
        replace hS := SG.set (i := 1) (by decide) (by decide) hS
        try simp only [Act.put, List.setIfInBounds_toArray, List.set_cons_zero, List.set_cons_succ]
        refine wpG_take0 (i := 2) (v := ?v3) rfl (by kernel_rfl) (by kernel_rfl) (by kernel_rfl) (by decide) (by decide) (fun _ _ _ h => h) hS (Or.inl ⟨by rfl, ?hy3⟩) ?rest3
        case hy3 => (intro w' hw; have u0 := (hw.cell (p := ⟨w.heap.size, 1, none⟩) hlt2 hne2).trans (q4 1); have u1 := (hw.cell (p := ⟨g0, o0 + i, none⟩) hlt0 hne0).trans yW; go_simp; try with_reducible rfl)
        replace hS := SG.set (i := 2) (by decide) (by decide) hS
        try simp only [Act.put, List.setIfInBounds_toArray, List.set_cons_zero, List.set_cons_succ]
        refine wpG_take0 (i := 3) (v := ?v4) rfl (by kernel_rfl) (by kernel_rfl) (by kernel_rfl) (by decide) (by decide) (fun _ _ _ h => h) hS (Or.inl ⟨by rfl, ?hy4⟩) ?rest4
        case hy4 => (intro w' hw; have u0 := (hw.cell (p := ⟨w.heap.size, 1, none⟩) hlt2 hne2).trans (q4 1); have u1 := (hw.cell (p := ⟨g0, o0 + i, none⟩) hlt0 hne0).trans yW; go_simp; try with_reducible rfl)
        replace hS := SG.set (i := 3) (by decide) (by decide) hS
        try simp only [Act.put, List.setIfInBounds_toArray, List.set_cons_zero, List.set_cons_succ]
        refine wpG_take0 (i := 4) (v := ?v5) rfl (by kernel_rfl) (by kernel_rfl) (by kernel_rfl) (by decide) (by decide) (fun _ _ _ h => h) hS (Or.inl ⟨by rfl, ?hy5⟩) ?rest5
        case hy5 => (intro w' hw; have u0 := (hw.cell (p := ⟨w.heap.size, 1, none⟩) hlt2 hne2).trans (q4 1); have u1 := (hw.cell (p := ⟨g0, o0 + i, none⟩) hlt0 hne0).trans yW; go_simp; try with_reducible rfl)
        replace hS := SG.set (i := 4) (by decide) (by decide) hS
        try simp only [Act.put, List.setIfInBounds_toArray, List.set_cons_zero, List.set_cons_succ]
        refine wpG_take0 (i := 5) (v := ?v6) rfl (by kernel_rfl) (by kernel_rfl) (by kernel_rfl) (by decide) (by decide) (fun _ _ _ h => h) hS (Or.inl ⟨by rfl, ?hy6⟩) ?rest6
        case hy6 => (intro w' hw; have u0 := (hw.cell (p := ⟨w.heap.size, 1, none⟩) hlt2 hne2).trans (q4 1); have u1 := (hw.cell (p := ⟨g0, o0 + i, none⟩) hlt0 hne0).trans yW; go_simp; try with_reducible rfl)
        replace hS := SG.set (i := 5) (by decide) (by decide) hS
        try simp only [Act.put, List.setIfInBounds_toArray, List.set_cons_zero, List.set_cons_succ]
        refine wpG_take0 (i := 6) (v := ?v7) rfl (by kernel_rfl) (by kernel_rfl) (by kernel_rfl) (by decide) (by decide) (fun _ _ _ h => h) hS (Or.inl ⟨by rfl, ?hy7⟩) ?rest7
        case hy7 => (intro w' hw; have u0 := (hw.cell (p := ⟨w.heap.size, 1, none⟩) hlt2 hne2).trans (q4 1); have u1 := (hw.cell (p := ⟨g0, o0 + i, none⟩) hlt0 hne0).trans yW; go_simp; try with_reducible rfl)
        replace hS := SG.set (i := 6) (by decide) (by decide) hS
        try simp only [Act.put, List.setIfInBounds_toArray, List.set_cons_zero, List.set_cons_succ]
        refine wpG_ready (rs := [7]) (by kernel_rfl) (by simp) ?_
        refine RG.cons rfl rfl (fun K hK => ?_) RG.nil
        go_simp
        refine hK.out _ _ ⟨A1.fr, fun _ => RT1.cell 1, fun _ => trivial⟩ (fun hS => ?_)
        clear hK K
        try simp only [Act.put, List.setIfInBounds_toArray, List.set_cons_zero, List.set_cons_succ]
        refine wpG_ready (rs := [8]) (by kernel_rfl) (by simp) ?_
        refine RG.cons rfl rfl (fun K hK => ?_) RG.nil
        refine wp_append_lies (wc.alloc (.cells #[Value.string s] 9)).drew (.tmp 27) (.tmp 33) 22 (by rfl) W.heap.size 9 i9 _ 1 16 Tryz.underlying22 hi9 hz9 hs9 hb9 rfl (by omega) x1 nl.length (nl.map Value.string) (by rfl) A1.o1 ⟨wc.heap.size, 0, none⟩ 1 1 [Value.string s] (by rfl) (by rfl) (World.news_of_block RX1) oc1 (by omega) b1 b2 hsz1 _ rfl ?_
        intro gg capa w1 hown hgrow hat hlt
        have Q1 := A1.app1 (fun g hg => (hQl g hg).1) hown hgrow rfl hat
        have T1 := RT1.grown hgrow eT1
        have RH1g := RH1.grown hgrow eH1
        have hgs := hgrow.size
        clear hown hgrow hat
        refine hK.out _ _ ⟨Q1.fr, fun h => absurd (h : true = false) (by decide), fun _ => trivial⟩ (fun hS => ?_)
        clear hK K
        try simp only [Act.put, List.setIfInBounds_toArray, List.set_cons_zero, List.set_cons_succ]
        refine wpG_take0 (i := 9) (v := ?v8) rfl (by kernel_rfl) (by kernel_rfl) (by kernel_rfl) (by decide) (by decide) (fun _ _ _ h => h) hS (Or.inl ⟨by rfl, ?hy8⟩) ?rest8
        case hy8 => (intro w' hw; go_simp; try with_reducible rfl)
        replace hS := SG.set (i := 9) (by decide) (by decide) hS
        try simp only [Act.put, List.setIfInBounds_toArray, List.set_cons_zero, List.set_cons_succ]
        refine wpG_ready (rs := [10]) (by kernel_rfl) (by simp) ?_
        refine RG.cons rfl rfl (fun K hK => ?_) RG.nil
        have zt1 := T1.cell
        have zt1t := T1.thaw
        go_simp
        clear zt1 zt1t
        refine hK.out _ _ ⟨(Q1.put hTW 1 _).fr, fun h => absurd (h : true = false) (by decide), fun _ => trivial⟩ (fun hS => ?_)
        clear hK K
        try simp only [Act.put, List.setIfInBounds_toArray, List.set_cons_zero, List.set_cons_succ]
        refine wpG_done (by kernel_rfl) ?_ _
        have Q2 := Q1.put hTW 1 (.slice (some ⟨gg, 0, none⟩) (nl.length + 1) capa)
        have T2 : RowB (w1.setCell ⟨w.heap.size + 3, 1, none⟩ (.slice (some ⟨gg, 0, none⟩) (nl.length + 1) capa)) (w.heap.size + 3) 25 #[.int .i64 3, .slice (some ⟨gg, 0, none⟩) (nl.length + 1) capa, x2] := T1.put 1 _
        have RH2 : RowB (w1.setCell ⟨w.heap.size + 3, 1, none⟩ (.slice (some ⟨gg, 0, none⟩) (nl.length + 1) capa)) H 25 #[.int .i64 kp, .slice An3 np.length cn3, .slice A3 pp.length c3] := RH1g.far hHT _
        obtain ⟨y1, hy1⟩ : ∃ y1, y1 = Value.slice (some ⟨gg, 0, none⟩) (nl.length + 1) capa := ⟨_, rfl⟩
        rw [← hy1] at Q2 T2 RH2 ⊢
        obtain ⟨w2, hw2⟩ : ∃ w2, w2 = w1.setCell ⟨w.heap.size + 3, 1, none⟩ y1 := ⟨_, rfl⟩
        rw [← hw2] at Q2 T2 RH2 ⊢
        have hfr2 : ∀ g, g < w.heap.size → w2.heap[g]? = wc.heap[g]? := fun g hg => (Q2.fr.block g (by omega) (by omega)).trans (HQC.out.fr.block g (by omega) (by omega)).symm
        have hsz2 : wc.heap.size ≤ w2.heap.size := by rw [hw2]; simp only [World.setCell, Array.size_modify]; have := hgs; simp at this; omega
        have HTI2 := Lib.hid (HTIC.out.keep (Q := fun g => P' g ∧ g < w.heap.size) hsz2 fun g hg _ => ⟨hfr2 g hg.2, hg⟩)
        have HTX2 := Lib.hid (HTXC.out.keep (Q := fun g => P g ∧ g < w.heap.size) hsz2 fun g hg _ => ⟨hfr2 g hg.2, hg⟩)
        have HQ2 := Lib.hid Q2
        have HT2 := Lib.hid T2
        have HRH2 := Lib.hid RH2
        clear A0 RT0' A1 RT1 RX1 RH1 oc1 hsz1 Q1 T1 RH1g Q2 T2 RH2 hfr2 hsz2 hgs HQC HTC HRH HTIC HTXC hw2 hy1 hS b1 b2 hlt
        go_wp2_with fail
        go_upto_region 8 with fail
        have D2 : Below w2.heap.size w2 w2.drew := Below.drew (Below.refl _ _)
        have A2 := HQ2.out.below D2
        have RT2 : RowB w2.drew (w.heap.size + 3) 25 #[.int .i64 3, y1, x2] := HT2.out
        have RHd : RowB w2.drew H 25 #[.int .i64 kp, .slice An3 np.length cn3, .slice A3 pp.length c3] := HRH2.out
        have C8 := Lib.hid (CIH.out _ (List.mem_singleton.2 rfl) _ (List.mem_singleton.2 rfl) w2.drew _ _ Bn2 dn2 B2 d2 An3 cn3 A3 c3 (HTI2.out.below D2) (HTX2.out.below D2))
        obtain ⟨T5, hT5⟩ : ∃ T5, T5 = com (.mk kt nt pt) (.mk kp np pp) := ⟨_, rfl⟩
        rw [← hT5] at C8 HN2
        clear hT5
        obtain ⟨k5, n5, p5⟩ := T5
        try simp only [tv, kind_mk, names_mk, parts_mk] at C8
        have hQd : w2.drew.heap.size = w2.heap.size := rfl
        refine wp_region_G (S := SG (fun w' => Fr (w.heap.size + 3) W.heap.size W w' ∧ RowB w' H 25 #[.int .i64 kp, .slice An3 np.length cn3, .slice A3 pp.length c3]) 10 (fun w' => w'.cell? ⟨w.heap.size + 3, 2, none⟩ = some x2) 10 (fun _ => True)) (by kernel_rfl) ⟨⟨A2.fr, RHd⟩, fun _ => RT2.cell 2, fun _ => trivial⟩ (fun hS => ?_)
        refine wpG_take0 (i := 0) (v := ?v9) rfl (by kernel_rfl) (by kernel_rfl) (by kernel_rfl) (by decide) (by decide) (fun _ _ _ h => h) hS (Or.inl ⟨by rfl, ?hy9⟩) ?rest9
        case hy9 => (intro w' hw; obtain ⟨hf, hh⟩ := hw; have u0 := (hf.cell (p := ⟨w.heap.size, 2, none⟩) hlt2 hne2).trans (q4 2); have u1 := (hf.cell (p := ⟨g, o + i * 3, none⟩) hlt1 hne1).trans zW0; have u2 := (hf.cell (p := ⟨g, o + i * 3 + 1, none⟩) hlt1 hne1).trans zW1; have u3 := (hf.cell (p := ⟨g, o + i * 3 + 2, none⟩) hlt1 hne1).trans zW2; have u4 := hh.cell; go_simp; try with_reducible rfl)
        replace hS := SG.set (i := 0) (by decide) (by decide) hS
        try simp only [Act.put, List.setIfInBounds_toArray, List.set_cons_zero, List.set_cons_succ]
        refine wpG_take1 (i := 1) (v := ?v10) rfl (by kernel_rfl) (by kernel_rfl) (by kernel_rfl) (by decide) (by decide) (by kernel_rfl) (by kernel_rfl) (fun _ _ _ h => h) hS (Or.inl ⟨by rfl, ?hy10⟩) ?rest10
        case hy10 => (intro w' hw; obtain ⟨⟨hf, hh⟩, u9⟩ := hw; have u0 := (hf.cell (p := ⟨w.heap.size, 2, none⟩) hlt2 hne2).trans (q4 2); have u1 := (hf.cell (p := ⟨g, o + i * 3, none⟩) hlt1 hne1).trans zW0; have u2 := (hf.cell (p := ⟨g, o + i * 3 + 1, none⟩) hlt1 hne1).trans zW1; have u3 := (hf.cell (p := ⟨g, o + i * 3 + 2, none⟩) hlt1 hne1).trans zW2; have u4 := hh.cell; go_simp; try with_reducible rfl)
        replace hS := SG.set (i := 1) (by decide) (by decide) hS
        try simp only [Act.put, List.setIfInBounds_toArray, List.set_cons_zero, List.set_cons_succ]
        refine wpG_take0 (i := 2) (v := ?v11) rfl (by kernel_rfl) (by kernel_rfl) (by kernel_rfl) (by decide) (by decide) (fun _ _ _ h => h) hS (Or.inl ⟨by rfl, ?hy11⟩) ?rest11
        case hy11 => (intro w' hw; obtain ⟨hf, hh⟩ := hw; have u0 := (hf.cell (p := ⟨w.heap.size, 2, none⟩) hlt2 hne2).trans (q4 2); have u1 := (hf.cell (p := ⟨g, o + i * 3, none⟩) hlt1 hne1).trans zW0; have u2 := (hf.cell (p := ⟨g, o + i * 3 + 1, none⟩) hlt1 hne1).trans zW1; have u3 := (hf.cell (p := ⟨g, o + i * 3 + 2, none⟩) hlt1 hne1).trans zW2; have u4 := hh.cell; go_simp; try with_reducible rfl)
        replace hS := SG.set (i := 2) (by decide) (by decide) hS
        try simp only [Act.put, List.setIfInBounds_toArray, List.set_cons_zero, List.set_cons_succ]
        refine wpG_take0 (i := 3) (v := ?v12) rfl (by kernel_rfl) (by kernel_rfl) (by kernel_rfl) (by decide) (by decide) (fun _ _ _ h => h) hS (Or.inl ⟨by rfl, ?hy12⟩) ?rest12
        case hy12 => (intro w' hw; obtain ⟨hf, hh⟩ := hw; have u0 := (hf.cell (p := ⟨w.heap.size, 2, none⟩) hlt2 hne2).trans (q4 2); have u1 := (hf.cell (p := ⟨g, o + i * 3, none⟩) hlt1 hne1).trans zW0; have u2 := (hf.cell (p := ⟨g, o + i * 3 + 1, none⟩) hlt1 hne1).trans zW1; have u3 := (hf.cell (p := ⟨g, o + i * 3 + 2, none⟩) hlt1 hne1).trans zW2; have u4 := hh.cell; go_simp; try with_reducible rfl)
        replace hS := SG.set (i := 3) (by decide) (by decide) hS
        try simp only [Act.put, List.setIfInBounds_toArray, List.set_cons_zero, List.set_cons_succ]
        refine wpG_take0 (i := 4) (v := ?v13) rfl (by kernel_rfl) (by kernel_rfl) (by kernel_rfl) (by decide) (by decide) (fun _ _ _ h => h) hS (Or.inl ⟨by rfl, ?hy13⟩) ?rest13
        case hy13 => (intro w' hw; obtain ⟨hf, hh⟩ := hw; have u0 := (hf.cell (p := ⟨w.heap.size, 2, none⟩) hlt2 hne2).trans (q4 2); have u1 := (hf.cell (p := ⟨g, o + i * 3, none⟩) hlt1 hne1).trans zW0; have u2 := (hf.cell (p := ⟨g, o + i * 3 + 1, none⟩) hlt1 hne1).trans zW1; have u3 := (hf.cell (p := ⟨g, o + i * 3 + 2, none⟩) hlt1 hne1).trans zW2; have u4 := hh.cell; go_simp; try with_reducible rfl)
        replace hS := SG.set (i := 4) (by decide) (by decide) hS
        try simp only [Act.put, List.setIfInBounds_toArray, List.set_cons_zero, List.set_cons_succ]
        refine wpG_take0 (i := 5) (v := ?v14) rfl (by kernel_rfl) (by kernel_rfl) (by kernel_rfl) (by decide) (by decide) (fun _ _ _ h => h) hS (Or.inl ⟨by rfl, ?hy14⟩) ?rest14
        case hy14 => (intro w' hw; obtain ⟨hf, hh⟩ := hw; have u0 := (hf.cell (p := ⟨w.heap.size, 2, none⟩) hlt2 hne2).trans (q4 2); have u1 := (hf.cell (p := ⟨g, o + i * 3, none⟩) hlt1 hne1).trans zW0; have u2 := (hf.cell (p := ⟨g, o + i * 3 + 1, none⟩) hlt1 hne1).trans zW1; have u3 := (hf.cell (p := ⟨g, o + i * 3 + 2, none⟩) hlt1 hne1).trans zW2; have u4 := hh.cell; go_simp; try with_reducible rfl)
        replace hS := SG.set (i := 5) (by decide) (by decide) hS
        try simp only [Act.put, List.setIfInBounds_toArray, List.set_cons_zero, List.set_cons_succ]
        refine wpG_take0 (i := 6) (v := ?v15) rfl (by kernel_rfl) (by kernel_rfl) (by kernel_rfl) (by decide) (by decide) (fun _ _ _ h => h) hS (Or.inl ⟨by rfl, ?hy15⟩) ?rest15
        case hy15 => (intro w' hw; obtain ⟨hf, hh⟩ := hw; have u0 := (hf.cell (p := ⟨w.heap.size, 2, none⟩) hlt2 hne2).trans (q4 2); have u1 := (hf.cell (p := ⟨g, o + i * 3, none⟩) hlt1 hne1).trans zW0; have u2 := (hf.cell (p := ⟨g, o + i * 3 + 1, none⟩) hlt1 hne1).trans zW1; have u3 := (hf.cell (p := ⟨g, o + i * 3 + 2, none⟩) hlt1 hne1).trans zW2; have u4 := hh.cell; go_simp; try with_reducible rfl)
        replace hS := SG.set (i := 6) (by decide) (by decide) hS
        try simp only [Act.put, List.setIfInBounds_toArray, List.set_cons_zero, List.set_cons_succ]
        refine wpG_take0 (i := 7) (v := ?v16) rfl (by kernel_rfl) (by kernel_rfl) (by kernel_rfl) (by decide) (by decide) (fun _ _ _ h => h) hS (Or.inl ⟨by rfl, ?hy16⟩) ?rest16
        case hy16 => (intro w' hw; obtain ⟨hf, hh⟩ := hw; have u0 := (hf.cell (p := ⟨w.heap.size, 2, none⟩) hlt2 hne2).trans (q4 2); have u1 := (hf.cell (p := ⟨g, o + i * 3, none⟩) hlt1 hne1).trans zW0; have u2 := (hf.cell (p := ⟨g, o + i * 3 + 1, none⟩) hlt1 hne1).trans zW1; have u3 := (hf.cell (p := ⟨g, o + i * 3 + 2, none⟩) hlt1 hne1).trans zW2; have u4 := hh.cell; go_simp; try with_reducible rfl)
        replace hS := SG.set (i := 7) (by decide) (by decide) hS
        try simp only [Act.put, List.setIfInBounds_toArray, List.set_cons_zero, List.set_cons_succ]
        refine wpG_ready (rs := [8]) (by kernel_rfl) (by simp) ?_
        refine RG.cons rfl rfl (fun K hK => ?_) RG.nil
        go_simp
        refine C8.out.mono ?_
        rintro e w3 ⟨h3, An5, cn5, A5, c5, rfl, ht5⟩
        go_wp2_with fail
        have Q3 := A2.below h3
        have T3 := RT2.below h3 RT2.lt
        have RH3 := RHd.below h3 RHd.lt
        refine hK.out _ _ ⟨⟨Q3.fr, RH3⟩, fun _ => T3.cell 2, fun _ => trivial⟩ (fun hS => ?_)
        clear hK K
        try simp only [Act.put, List.setIfInBounds_toArray, List.set_cons_zero, List.set_cons_succ]
        have Q3a := Q3.below (bel1 w3 (.cells #[Value.int .i64 k5, .slice An5 n5.length cn5, .slice A5 p5.length c5] 25))
        have hti := (A2.pend hQl hTW (ht5.mono (Q := fun g => ((P' g ∨ P g) ∧ g < w.heap.size) ∨ w2.drew.heap.size ≤ g) fun g hg => by rcases hg with (hg | hg) | hg <;> first | exact .inl ⟨.inl hg.1, hg.2⟩ | exact .inl ⟨.inr hg.1, hg.2⟩ | exact .inr hg)).below (bel1 w3 (.cells #[Value.int .i64 k5, .slice An5 n5.length cn5, .slice A5 p5.length c5] 25))
        have oc2 : ∀ u ∈ (#[Value.int .i64 k5, .slice An5 n5.length cn5, .slice A5 p5.length c5] : Array Value).toList, u.oneCell' = true := by simp [Value.oneCell']
        have hsz3 : W.heap.size ≤ (w3.alloc (.cells #[Value.int .i64 k5, .slice An5 n5.length cn5, .slice A5 p5.length c5] 25)).heap.size := Q3a.fr.size
        refine wpG_ready (rs := [9]) (by kernel_rfl) (by simp) ?_
        refine RG.cons rfl rfl (fun K hK => ?_) RG.nil
        go_simp
        refine hK.out _ _ ⟨⟨Q3a.fr, RH3.alloc _⟩, fun _ => (T3.alloc _).cell 2, fun _ => trivial⟩ (fun hS => ?_)
        clear hK K
        try simp only [Act.put, List.setIfInBounds_toArray, List.set_cons_zero, List.set_cons_succ]
        refine wpG_ready (rs := [10]) (by kernel_rfl) (by simp) ?_
        refine RG.cons rfl rfl (fun K hK => ?_) RG.nil
        refine wp_append_lies (w3.alloc (.cells #[Value.int .i64 k5, .slice An5 n5.length cn5, .slice A5 p5.length c5] 25)) (.tmp 37) (.tmp 45) 23 (by rfl) W.heap.size 25 iT _ 3 56 Tryz.underlying23 hiT hzT hsT hbT rfl (by omega) x2 tl.length cs (by rfl) Q3a.o2 ⟨w3.heap.size, 0, none⟩ 1 1 (#[Value.int .i64 k5, .slice An5 n5.length cn5, .slice A5 p5.length c5] : Array Value).toList (by rfl) (by rfl) (World.news_of_block (RowB.new w3 25 #[Value.int .i64 k5, .slice An5 n5.length cn5, .slice A5 p5.length c5])) oc2 (by omega) b3 b4 hsz3 _ rfl ?_
        intro gb capb w5 hown2 hgrow2 hat2 hlt2'
        have Q5 := Q3a.app2 hti hown2 hgrow2 rfl hat2
        have T5r := (T3.alloc (.cells #[Value.int .i64 k5, .slice An5 n5.length cn5, .slice A5 p5.length c5] 25)).grown hgrow2 eT2
        have RH5 := (RH3.alloc (.cells #[Value.int .i64 k5, .slice An5 n5.length cn5, .slice A5 p5.length c5] 25)).grown hgrow2 eH2
        clear hown2 hgrow2 hat2
        refine hK.out _ _ ⟨⟨Q5.fr, RH5⟩, fun h => absurd (h : true = false) (by decide), fun _ => trivial⟩ (fun hS => ?_)
        clear hK K
        try simp only [Act.put, List.setIfInBounds_toArray, List.set_cons_zero, List.set_cons_succ]
        refine wpG_take0 (i := 11) (v := ?v17) rfl (by kernel_rfl) (by kernel_rfl) (by kernel_rfl) (by decide) (by decide) (fun _ _ _ h => h) hS (Or.inl ⟨by rfl, ?hy17⟩) ?rest17
        case hy17 => (intro w' hw; go_simp; try with_reducible rfl)
        replace hS := SG.set (i := 11) (by decide) (by decide) hS
        try simp only [Act.put, List.setIfInBounds_toArray, List.set_cons_zero, List.set_cons_succ]
        refine wpG_ready (rs := [12]) (by kernel_rfl) (by simp) ?_
        refine RG.cons rfl rfl (fun K hK => ?_) RG.nil
        have zt1 := T5r.cell
        have zt1t := T5r.thaw
        go_simp
        clear zt1 zt1t
        refine hK.out _ _ ⟨⟨(Q5.put hTW 2 _).fr, RH5.far hHT _⟩, fun h => absurd (h : true = false) (by decide), fun _ => trivial⟩ (fun hS => ?_)
        clear hK K
        try simp only [Act.put, List.setIfInBounds_toArray, List.set_cons_zero, List.set_cons_succ]
        refine wpG_done (by kernel_rfl) ?_ _
        have HFIN : Hid (∃ v1 v2 cs, RC W (w5.setCell ⟨w.heap.size + 3, 2, none⟩ (.slice (some ⟨gb, 0, none⟩) (tl.length + 1) capb)) (w.heap.size + 3) (fun g => (P' g ∨ P g) ∧ g < w.heap.size) v1 v2 ((comR com an ap (bn.take j) (bp.take j)).map Prod.fst) ((comR com an ap (bn.take j) (bp.take j)).map Prod.snd) cs ∧ RowB (w5.setCell ⟨w.heap.size + 3, 2, none⟩ (.slice (some ⟨gb, 0, none⟩) (tl.length + 1) capb)) (w.heap.size + 3) 25 #[.int .i64 3, v1, v2]) := by
          unfold Hid
          rw [HN1.out, HN2.out]
          exact ⟨y1, _, _, Q5.put hTW 2 _, T5r.put 2 _⟩
        clear A2 RT2 RHd Q3 T3 RH3 Q3a hti Q5 T5r RH5 hS h3 ht5
        go_wp2_with fail
        go_roundg (n - j)
        case measure => omega
        case rel => exact ⟨j, by rw [hj]; go_num, by omega, by omega, HFIN.out⟩
    · have hil : ¬ (i : Int) < (n : Int) := by omega
      obtain rfl : i = n := by omega
      have hX := HX.out
      rw [List.take_of_length_le (Nat.le_of_eq HL.out.2.1.symm), List.take_of_length_le (Nat.le_of_eq HL.out.2.2.symm)] at hX
      obtain ⟨x1, x2, cs, hrc, hrow⟩ := hX
      have hT4 := HWS.out
      have hTW : w.heap.size + 3 < W.heap.size := by omega
      obtain ⟨An', cn', A', c', e1, e2, hti⟩ := hrc.out (fun s hs => HNB1.out.2.1 s (comR_sub hs)) hTW 3
      have Z3 := Lib.hid (hrc.fr.row RR.out (by omega) (by omega))
      have ZT := Lib.hid hrow
      have hsz := hrc.fr.size
      have HTI := Lib.hid hti
      have HBF : Hid (Below w.heap.size w wr) := HBW.out.trans (hrc.fr.below (Nat.le_trans (Nat.le_add_right _ _) hT4) (Nat.le_add_right _ _))
      have z3 := Z3.out.cell
      have z3t := Z3.out.thaw
      have zT := ZT.out.cell
      have hlt : w.heap.size + 2 < wr.heap.size := Z3.out.lt
      obtain ⟨l, hl⟩ : ∃ l, l = comR com an ap bn bp := ⟨_, rfl⟩
      rw [← hl] at e1 e2 HTI
      have HLE := Lib.hid hl
      subst e1 e2
      clear hti hrc hrow HX hi hl
      go_wp2_with fail
      refine bodyPost_ret (v := tv (recOf l) An' cn' A' c') ?_ rfl ⟨below_put3 HBF.out (by omega) _ _ _, An', cn', A', c', by rw [← HLE.out], ?_⟩
      · simp [results, Tryz.results81, go_sem, z3]
        try first | rfl | exact ⟨rfl, rfl⟩ | simp [recOf]
      · rw [← HLE.out]
        refine HTI.out.put3 (fun g hg => ?_) _ _ _
        rcases hg.1 with h | h
        · exact ⟨.inl h.1, by omega⟩
        · exact ⟨.inr (by omega), by omega⟩
end Tm
end Go.Proofs.YtifkjngclkklfaaGreatDoor
