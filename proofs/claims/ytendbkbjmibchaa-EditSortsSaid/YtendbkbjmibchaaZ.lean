/- The pieces of a text behind edits, laid by a function value. -/
import Derived.Test.YtendbkbjmibchaaX
import Derived.Test.YtendbkbjmibchaaW
namespace Go.Proofs.Ytendbkbjmibchaa
open Go.RowKit

/-- A piece: bytes that are left, or a text that is put in. -/
structure Pc where
  f : Int
  t : Int
  x : ByteArray
abbrev pv (p : Pc) : Value := .agg #[.int .i64 p.f, .int .i64 p.t, .string p.x]
def lv (a b : Int) : List Pc := if a < b then [⟨a, b, ⟨#[]⟩⟩] else []
def tx_ (x : ByteArray) : List Pc := if x.size = 0 then [] else [⟨0, 0, x⟩]
def pcs (n : Int) : Int → List Ed → List Pc
  | a, [] => lv a n
  | a, e :: r => lv a e.f ++ tx_ e.x ++ pcs n e.t r

/-- A world in which the function value f lies in block fb, the number a in block ab. -/
def Walks (fb ab : Nat) (fv : Value) (a : Int) (w : World) : Prop := RowB w fb 84 #[fv] ∧ RowB w ab 3 #[.int .i64 a]

/-- Who lays: a function value whose calls put one piece more, and turn nothing but what is theirs: block v, and rows of type e. -/
structure Lays (F : Nat) (caps : List Value) (B v e : Nat) (I : List Pc → World → Prop) (G : Pc → List Pc → Prop) : Prop where
  call : ∀ ps p w, I ps w → G p ps → B ≤ w.heap.size → Calls Try.prog F (pv p :: caps).toArray w fun en w' => en = .returned (.tuple #[]) ∧ I (ps ++ [p]) w' ∧ Below B w w' ∧ Lib.OthersKept e (some v) w w'
  keep : ∀ ps w w', I ps w → w.heap.size ≤ w'.heap.size → Lib.OthersKept 3 none w w' → I ps w'

theorem Lib_kept_alloc (w : World) (e : Nat) (v : Option Nat) (o : Obj) : Lib.OthersKept e v w (w.alloc o) := fun k o' hk _ _ => by
  have hlt : k < w.heap.size := by
    rcases Nat.lt_or_ge k w.heap.size with h | h
    · exact h
    · rw [Array.getElem?_eq_none h] at hk; cases hk
  rw [Below.heap_alloc w o k hlt]; exact hk
theorem kept_set3 {w : World} {b : Nat} {x : Value} (h : RowB w b 3 #[x]) (j : Nat) (v : Value) : Lib.OthersKept 3 none w (w.setCell ⟨b, j, none⟩ v) := fun k o hk _ ho => by
  rw [Below.heap_setCell w ⟨b, j, none⟩ v k (fun e => ?_)]
  · exact hk
  · simp only at e
    subst e
    unfold RowB at h
    rw [hk] at h
    injection h with h
    exact ho _ _ h
theorem RowB.others {w w' : World} {g t e : Nat} {v : Nat} {cs : Array Value} (h : RowB w g t cs) (ho : Lib.OthersKept e (some v) w w') (hv : g ≠ v) (ht : t ≠ e) : RowB w' g t cs :=
  ho g _ h (fun hh => hv (by injection hh)) (fun c fz hh => ht (by injection hh))

set_option maxHeartbeats 1000000 in
set_option maxRecDepth 100000 in
/-- 'leave': what stands from the place on, up to another one, is laid as one piece. -/
theorem leave46 (c1 c2 : Value) (B v e fb ab : Nat) (I : List Pc → World → Prop) (G : Pc → List Pc → Prop) (L : Lays 46 [c1, c2] B v e I G) (he : e ≠ 3 ∧ e ≠ 84) (ps : List Pc) (a n : Int) (w : World)
    (hw : Walks fb ab (.func (.func 46) #[] #[c1, c2]) a w) (hI : I ps w) (hB : B ≤ w.heap.size) (hfv : fb ≠ v) (hav : ab ≠ v) (hG : a < n → G ⟨a, n, ⟨#[]⟩⟩ ps) :
    Calls Try.prog 61 #[.int .i64 n, .pointer (some ⟨ab, 0, none⟩), .pointer (some ⟨fb, 0, none⟩)] w fun en w' => en = .returned (.tuple #[]) ∧ I (ps ++ lv a n) w' ∧ Walks fb ab (.func (.func 46) #[] #[c1, c2]) a w' ∧ Below B w w' ∧ Lib.OthersKept e (some v) w w' := by
  have q0 : w.cell? ⟨ab, 0, none⟩ = some (.int .i64 a) := hw.2.cell 0
  have q1 : w.cell? ⟨fb, 0, none⟩ = some (.func (.func 46) #[] #[c1, c2]) := hw.1.cell 0
  have HW := Lib.hid hw
  have HI := Lib.hid hI
  have HL := Lib.hid L
  have HG := Lib.hid hG
  clear hw hI hG
  by_cases hlt : a < n
  · have E : Hid (lv a n = [⟨a, n, ⟨#[]⟩⟩]) := by unfold Hid lv; rw [if_pos hlt]
    go_enter Try.func61, Try.ntmps61
    go_wp2_with fail
    refine (HL.out.call ps ⟨a, n, ⟨#[]⟩⟩ _ HI.out (HG.out hlt) hB).mono ?_
    rintro en w1 ⟨rfl, h1, h2, h3⟩
    have R1 : Hid (I (ps ++ lv a n) w1) := by unfold Hid; rw [E.out]; exact h1
    have R2 : Hid (Walks fb ab (.func (.func 46) #[] #[c1, c2]) a w1) := ⟨HW.out.1.others h3 hfv (Ne.symm he.2), HW.out.2.others h3 hav (Ne.symm he.1)⟩
    have R3 := Lib.hid h2
    have R4 := Lib.hid h3
    clear h1 h2 h3 q0 q1
    go_wp2
    go_end0
    exact ⟨rfl, R1.out, R2.out, R3.out, R4.out⟩
  · have E : Hid (lv a n = []) := by unfold Hid lv; rw [if_neg hlt]
    go_enter Try.func61, Try.ntmps61
    go_wp2_with fail
    go_end0
    exact ⟨rfl, by rw [E.out, List.append_nil]; exact HI.out, HW.out, Below.refl _ _, Lib.OthersKept.refl _ _ _⟩

/-- Where the edit ahead of place k ended; at the beginning 0. -/
def enda (es : List Ed) (k : Nat) : Int := if h : 0 < k ∧ k - 1 < es.length then (es[k - 1]'h.2).t else 0
theorem enda_succ (es : List Ed) (k : Nat) (hk : k < es.length) : enda es (k + 1) = es[k].t := by
  unfold enda
  rw [dif_pos ⟨by omega, by simpa using hk⟩]
  simp
theorem enda_zero (es : List Ed) : enda es 0 = 0 := by unfold enda; rw [dif_neg (by omega)]
theorem pcs_at (n a : Int) (es : List Ed) (k : Nat) (hk : k < es.length) : pcs n a (es.drop k) = lv a es[k].f ++ tx_ es[k].x ++ pcs n (enda es (k + 1)) (es.drop (k + 1)) := by
  rw [List.drop_eq_getElem_cons hk, pcs, enda_succ es k hk]
theorem pcs_end (n a : Int) (es : List Ed) : pcs n a (es.drop es.length) = lv a n := by
  rw [List.drop_length, pcs]

/-- What stands when the walk has ended. -/
def Walked (B : Nat) (I : List Pc → World → Prop) (all : List Pc) (w : World) (en : Ending) (w' : World) : Prop := en = .returned (.tuple #[]) ∧ I all w' ∧ Below B w w'

set_option maxHeartbeats 4000000 in
set_option maxRecDepth 100000 in
theorem walk46 (c1 c2 : Value) (B v e : Nat) (I : List Pc → World → Prop) (G : Pc → List Pc → Prop) (L : Lays 46 [c1, c2] B v e I G) (he : e ≠ 3 ∧ e ≠ 84) (he2 : e ≠ 68) (A : Option Addr) (cap : Nat) (es : List Ed) (n : Int) (ps0 : List Pc) (w : World)
    (hes : Eds w B A es) (hI : I ps0 w) (hB : B ≤ w.heap.size) (hv : v < w.heap.size) (hl : es.length ≤ 100000)
    (hG : ∀ done p rest, done ++ [p] ++ rest = ps0 ++ pcs n 0 es → G p done) :
    Calls Try.prog 45 #[.slice A es.length cap, .int .i64 n, .func (.func 46) #[] #[c1, c2]] w (Walked B I (ps0 ++ pcs n 0 es) w) := by
  have hmf : ∀ (fn : Fn) (first cap : Array Value) (w : World), (Instr.makeFunc fn first cap).run Try.prog w = .ok (.func fn first cap) w := fun _ _ _ _ => rfl
  have HES := Lib.hid hes
  have HI := Lib.hid hI
  have HL := Lib.hid L
  have HG := Lib.hid hG
  clear hes hI hG
  have W1 : Hid (Walks w.heap.size (w.heap.size + 1) (.func (.func 46) #[] #[c1, c2]) 0 ((w.alloc (.cells #[.func (.func 46) #[] #[c1, c2]] 84)).alloc (.cells #[.int .i64 0] 3))) :=
    ⟨(RowB.new w 84 _).alloc _, by have := RowB.new (w.alloc (.cells #[.func (.func 46) #[] #[c1, c2]] 84)) 3 #[.int .i64 0]; simpa using this⟩
  have I1 : Hid (I ps0 ((w.alloc (.cells #[.func (.func 46) #[] #[c1, c2]] 84)).alloc (.cells #[.int .i64 0] 3))) :=
    HL.out.keep _ _ _ HI.out (by simp; omega) ((Lib_kept_alloc _ _ _ _).trans (Lib_kept_alloc _ _ _ _))
  have B1 : Hid (Below B w ((w.alloc (.cells #[.func (.func 46) #[] #[c1, c2]] 84)).alloc (.cells #[.int .i64 0] 3))) := ((Below.refl _ _).alloc hB _).alloc (by simp; omega) _
  go_enter Try.func45, Try.ntmps45
  go_wp2_with fail
  clear hmf
  go_loopw [9, 13] (fun _ i wr => ∃ (k : Nat) (done : List Pc), k ≤ es.length ∧ i = .int .i64 k ∧ I done wr ∧ done ++ pcs n (enda es k) (es.drop k) = ps0 ++ pcs n 0 es ∧ Walks w.heap.size (w.heap.size + 1) (.func (.func 46) #[] #[c1, c2]) (enda es k) wr ∧ Below B w wr) (fun _ i _ => es.length - (intOf i).toNat)
  case atStart => exact ⟨0, ps0, by omega, rfl, I1.out, by rw [enda_zero]; rfl, by rw [enda_zero]; exact W1.out, B1.out⟩
  case round =>
    obtain ⟨k, done, hk, rfl, hi, hd, hw, hb⟩ := hrel
    have HI := Lib.hid hi
    have HD := Lib.hid hd
    have HW := Lib.hid hw
    have HB := Lib.hid hb
    have hBr : B ≤ wr.heap.size := Nat.le_trans hB hb.size
    clear hi hd hw hb
    by_cases hlt : k < es.length
    · obtain ⟨bb, off, rfl, hbl, hcell⟩ := (HES.out.below HB.out) (by omega)
      obtain ⟨q0, q1, q2⟩ := hcell k hlt
      have HP := Lib.hid (pcs_at n (enda es k) es k hlt)
      obtain ⟨y, hy⟩ : ∃ y, y = es[k] := ⟨_, rfl⟩
      rw [← hy] at q0 q1 q2
      have HY := Lib.hid hy
      clear hcell hy
      have hbb : bb < wr.heap.size := by omega
      have hEq : done ++ (lv (enda es k) y.f ++ tx_ y.x ++ pcs n (enda es (k + 1)) (es.drop (k + 1))) = ps0 ++ pcs n 0 es := by rw [HY.out, ← HP.out]; exact HD.out
      have HQ := Lib.hid hEq
      clear hEq
      go_wp2_with fail
      refine (leave46 c1 c2 B v e w.heap.size (w.heap.size + 1) I G HL.out he done (enda es k) y.f _ ⟨HW.out.1.alloc _, HW.out.2.alloc _⟩ (HL.out.keep _ _ _ HI.out (by simp) (Lib_kept_alloc _ _ _ _)) (by simp; omega) (by omega) (by omega)
        (fun h => HG.out done _ (tx_ y.x ++ pcs n (enda es (k + 1)) (es.drop (k + 1))) (by rw [← HQ.out]; simp [lv, h]))).mono ?_
      rintro en w2 ⟨rfl, hi2, hw2, hb2, ho2⟩
      have HE2 := Lib.hid ((RowB.new wr 68 #[.int .i64 y.f, .int .i64 y.t, .string y.x]).others ho2 (by have := HB.out.size; omega) (Ne.symm he2))
      have HI2 := Lib.hid hi2
      have HW2 := Lib.hid hw2
      have HB2 := Lib.hid ((HB.out.alloc hBr (.cells #[.int .i64 y.f, .int .i64 y.t, .string y.x] 68)).trans hb2)
      have hBr2 : B ≤ w2.heap.size := Nat.le_trans hB HB2.out.size
      clear hi2 hw2 hb2 ho2 q0 q1 q2
      have p0 : w2.cell? ⟨wr.heap.size, 0, none⟩ = some (.int .i64 y.f) := HE2.out.cell 0
      have p1 : w2.cell? ⟨wr.heap.size, 1, none⟩ = some (.int .i64 y.t) := HE2.out.cell 1
      have p2 : w2.cell? ⟨wr.heap.size, 2, none⟩ = some (.string y.x) := HE2.out.cell 2
      have p3 : w2.cell? ⟨w.heap.size, 0, none⟩ = some (.func (.func 46) #[] #[c1, c2]) := HW2.out.1.cell 0
      have p4 : w2.cell? ⟨w.heap.size + 1, 0, none⟩ = some (.int .i64 (enda es k)) := HW2.out.2.cell 0
      have p5 : w2.frozen? ⟨w.heap.size + 1, 0, none⟩ = false := HW2.out.2.thaw 0
      by_cases hz : y.x.size = 0
      · have g4 : y.x.toList.isEmpty = true := by rw [empty_iff]; simpa using hz
        have HT : Hid (tx_ y.x = []) := by unfold Hid tx_; rw [if_pos hz]
        clear hz
        have I3 : Hid (I (done ++ lv (enda es k) y.f ++ tx_ y.x) (w2.setCell ⟨w.heap.size + 1, 0, none⟩ (.int .i64 y.t))) := by
          unfold Hid; rw [HT.out, List.append_nil]; exact HL.out.keep _ _ _ HI2.out (by simp [World.setCell]) (kept_set3 HW2.out.2 _ _)
        have W3 : Hid (Walks w.heap.size (w.heap.size + 1) (.func (.func 46) #[] #[c1, c2]) y.t (w2.setCell ⟨w.heap.size + 1, 0, none⟩ (.int .i64 y.t))) :=
          ⟨HW2.out.1.far (by simp) _, HW2.out.2.put 0 _⟩
        have B3 := Lib.hid (HB2.out.setCell (p := ⟨w.heap.size + 1, 0, none⟩) (show B ≤ w.heap.size + 1 by omega) (.int .i64 y.t))
        go_wp2_with fail
        go_roundw
        case rel => exact ⟨k + 1, done ++ lv (enda es k) y.f ++ tx_ y.x, by omega, by go_num, I3.out, by rw [← HQ.out]; simp [List.append_assoc], by rw [enda_succ es k hlt, ← HY.out]; exact W3.out, B3.out⟩
        case measure => simp [intOf]; omega
      · have g4 : y.x.toList.isEmpty = false := by rw [empty_iff]; simpa using hz
        have HT : Hid (tx_ y.x = [⟨0, 0, y.x⟩]) := by unfold Hid tx_; rw [if_neg hz]
        clear hz
        go_wp2_with fail
        refine (HL.out.call (done ++ lv (enda es k) y.f) ⟨0, 0, y.x⟩ _ HI2.out (HG.out _ _ (pcs n (enda es (k + 1)) (es.drop (k + 1))) (by rw [← HQ.out, HT.out]; simp [List.append_assoc])) hBr2).mono ?_
        rintro en w3 ⟨rfl, hi3, hb3, ho3⟩
        have HE3 := Lib.hid (HE2.out.others ho3 (by have := HB.out.size; omega) (Ne.symm he2))
        have HW3 : Hid (Walks w.heap.size (w.heap.size + 1) (.func (.func 46) #[] #[c1, c2]) (enda es k) w3) := ⟨HW2.out.1.others ho3 (by omega) (Ne.symm he.2), HW2.out.2.others ho3 (by omega) (Ne.symm he.1)⟩
        have HI3 := Lib.hid hi3
        have HB3 := Lib.hid (HB2.out.trans hb3)
        clear hi3 hb3 ho3 p0 p1 p2 p3 p4 p5
        have r1 : w3.cell? ⟨wr.heap.size, 1, none⟩ = some (.int .i64 y.t) := HE3.out.cell 1
        have r4 : w3.cell? ⟨w.heap.size + 1, 0, none⟩ = some (.int .i64 (enda es k)) := HW3.out.2.cell 0
        have r5 : w3.frozen? ⟨w.heap.size + 1, 0, none⟩ = false := HW3.out.2.thaw 0
        have I4 : Hid (I (done ++ lv (enda es k) y.f ++ tx_ y.x) (w3.setCell ⟨w.heap.size + 1, 0, none⟩ (.int .i64 y.t))) := by
          unfold Hid; rw [HT.out]; exact HL.out.keep _ _ _ HI3.out (by simp [World.setCell]) (kept_set3 HW3.out.2 _ _)
        have W4 : Hid (Walks w.heap.size (w.heap.size + 1) (.func (.func 46) #[] #[c1, c2]) y.t (w3.setCell ⟨w.heap.size + 1, 0, none⟩ (.int .i64 y.t))) :=
          ⟨HW3.out.1.far (by simp) _, HW3.out.2.put 0 _⟩
        have B4 := Lib.hid (HB3.out.setCell (p := ⟨w.heap.size + 1, 0, none⟩) (show B ≤ w.heap.size + 1 by omega) (.int .i64 y.t))
        go_wp2_with fail
        go_roundw
        case rel => exact ⟨k + 1, done ++ lv (enda es k) y.f ++ tx_ y.x, by omega, by go_num, I4.out, by rw [← HQ.out]; simp [List.append_assoc], by rw [enda_succ es k hlt, ← HY.out]; exact W4.out, B4.out⟩
        case measure => simp [intOf]; omega
    · obtain rfl : k = es.length := by omega
      have hEq : done ++ lv (enda es es.length) n = ps0 ++ pcs n 0 es := by rw [← pcs_end n _ es]; exact HD.out
      have HQ := Lib.hid hEq
      clear hEq
      go_wp2_with fail
      refine (leave46 c1 c2 B v e w.heap.size (w.heap.size + 1) I G HL.out he done (enda es es.length) n _ HW.out HI.out hBr (by omega) (by omega)
        (fun h => HG.out done _ [] (by rw [← HQ.out]; simp [lv, h]))).mono ?_
      rintro en w2 ⟨rfl, hi2, hw2, hb2, ho2⟩
      have HI2 := Lib.hid hi2
      have HB2 := Lib.hid (HB.out.trans hb2)
      clear hi2 hw2 hb2 ho2
      go_wp2
      go_end0
      exact ⟨rfl, by rw [← HQ.out]; exact HI2.out, HB2.out⟩
end Go.Proofs.Ytendbkbjmibchaa
