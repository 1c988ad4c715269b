/- A value's text; contracts: what a writer writes of a value. -/
import Derived.Test.YtbjlhdjcdinmhaaDoorQS
import Derived.Test.YtbjlhdjcdinmhaaDoorQF
namespace Go.Proofs.YtbjlhdjcdinmhaaDoor
open Go.RowKit Go.Op
namespace Vm
/-- Names, each with its text. -/
def pieces : Nat → List ByteArray → List (List UInt8) → List UInt8
  | k, n :: ns, t :: ts => (if k = 0 then [] else [44, 32]) ++ n.data.toList ++ [58, 32] ++ t ++ pieces (k + 1) ns ts
  | _, _, _ => []
mutual
/-- A value as a line. -/
def Vl.text : Vl → List UInt8
  | .mk h ns ps => if h.kind = 1 then Lib.itoa h.n else if h.kind = 2 then Qt.quoL h.s.data.toList else if h.kind = 4 then [102, 110, 47] ++ Lib.itoa h.n else if h.kind = 3 then [123] ++ pieces 0 ns (textL ps) ++ [125] else []
def textL : List Vl → List (List UInt8)
  | [] => []
  | v :: vs => v.text :: textL vs
end
theorem textL_map : ∀ l : List Vl, textL l = l.map Vl.text
  | [] => rfl
  | v :: vs => by rw [textL, textL_map vs]; rfl
mutual
/-- All numbers are numbers of 64 bits. -/
def Vl.rng : Vl → Prop
  | .mk h _ ps => (-9223372036854775808 ≤ h.n ∧ h.n ≤ 9223372036854775807) ∧ rngL ps
def rngL : List Vl → Prop
  | [] => True
  | v :: vs => v.rng ∧ rngL vs
end
theorem rngL_mem : ∀ {l : List Vl} {v : Vl}, rngL l → v ∈ l → v.rng
  | a :: l, v, h, hv => by
    rw [rngL] at h
    rcases List.mem_cons.1 hv with rfl | hv
    · exact h.1
    · exact rngL_mem h.2 hv
theorem pieces_snoc : ∀ {ns : List ByteArray} {ts : List (List UInt8)} {k i : Nat} {n : ByteArray} {t : List UInt8}, ns[i]? = some n → ts[i]? = some t →
    pieces k (ns.take (i + 1)) (ts.take (i + 1)) = pieces k (ns.take i) (ts.take i) ++ (if k + i = 0 then [] else [44, 32]) ++ n.data.toList ++ [58, 32] ++ t
  | [], _, _, _, _, _, h, _ => by simp at h
  | _ :: _, [], _, _, _, _, _, h => by simp at h
  | a :: ns, b :: ts, k, 0, n, t, h, h' => by
    obtain rfl : a = n := by simpa using h
    obtain rfl : b = t := by simpa using h'
    simp [pieces]
  | a :: ns, b :: ts, k, i + 1, n, t, h, h' => by
    have ih := pieces_snoc (ns := ns) (ts := ts) (k := k + 1) (i := i) (n := n) (t := t) (by simpa using h) (by simpa using h')
    rw [List.take_succ_cons, List.take_succ_cons, List.take_succ_cons, List.take_succ_cons, pieces, pieces, ih]
    have e : k + 1 + i = k + (i + 1) := by omega
    rw [e]
    simp
theorem pieces_le : ∀ {ns : List ByteArray} {ts : List (List UInt8)} {k i : Nat}, (pieces k (ns.take i) (ts.take i)).length ≤ (pieces k ns ts).length
  | _, _, _, 0 => by simp [pieces]
  | [], _, _, _ + 1 => by simp [pieces]
  | _ :: _, [], _, _ + 1 => by simp [pieces]
  | a :: ns, b :: ts, k, i + 1 => by
    have ih := pieces_le (ns := ns) (ts := ts) (k := k + 1) (i := i)
    rw [List.take_succ_cons, List.take_succ_cons, pieces, pieces]
    simp only [List.length_append]
    omega
/-- What is asked of a value ahead of its writing. -/
def Good (v : Vl) : Prop := v.right = true ∧ v.rng ∧ v.byt ≤ 100000 ∧ v.cnt ≤ 1000001
def TbB (B : Nat) (w : World) : Prop := Lib.TabBelow Tryd.prog B w "internal/strconv.uint64pow10" .u64 Lib.pow10Tab
theorem TbB.step {B : Nat} {w w1 : World} (h : TbB B w) (hb : Below B w w1) : TbB B w1 := h.on hb
theorem TbB.tb {B : Nat} {w : World} (h : TbB B w) (hB : B ≤ w.heap.size) : Tb w := fun w' hb => h w' (hb.mono hB)
/-- What writes values. -/
def TextIH (ps : List Vl) : Prop := ∀ p ∈ ps, Good p → ∀ (B b : Nat) (bs : List Value) (w : World) (An : Option Addr) (cn : Nat) (A : Option Addr) (c : Nat), Prn B b bs w → B ≤ w.heap.size → VI w (fun g => g < B) p An cn A c → bs.length + p.text.length ≤ lim → TbB B w → Calls Tryd.prog 41 #[.pointer (some ⟨b, 0, none⟩), vv p An cn A c] w (Wrt B b bs p.text w)
theorem write_w {B b : Nat} {bs : List Value} {w : World} (h : Prn B b bs w) (s : ByteArray) (x : List UInt8) (hx : s.data.toList = x) (hl : bs.length + x.length ≤ lim) (hBw : B ≤ w.heap.size) :
    Calls Tryd.prog 58 #[.pointer (some ⟨b, 0, none⟩), .string s] w (fun e w' => e = .returned (.tuple #[.int .i64 s.size, .nilIface]) ∧ Wrt B b bs x w (.returned (.tuple #[])) w') := by
  have hs : s.size = x.length := by rw [← hx]; simp
  refine (write_any B b _ s w h (by unfold lim at hl; omega) hBw).mono ?_
  rintro e w2 ⟨rfl, h1, h2, h3⟩
  rw [sc_bc, hx] at h1
  exact ⟨rfl, rfl, h1, h2, h3⟩
theorem Wrt.row {B b : Nat} {bs : List Value} {x : List UInt8} {w w' : World} {e : Ending} (h : Wrt B b bs x w e w') {g t : Nat} {cs : Array Value} (hr : RowB w g t cs) (hg : g ≠ b) (ht : t ≠ 5) : RowB w' g t cs := row_others hr h.2.2.2 hg ht
theorem Pw.write' {B b : Nat} {bs : List Value} {X : List UInt8} {w0 w : World} (h : Pw B b bs X w0 w) (s : ByteArray) (x : List UInt8) (hx : s.data.toList = x) {L : Nat} (hl : bs.length + L ≤ lim) (hL : X.length + x.length ≤ L) :
    Calls Tryd.prog 58 #[.pointer (some ⟨b, 0, none⟩), .string s] w (fun e w' => e = .returned (.tuple #[.int .i64 s.size, .nilIface]) ∧ Pw B b bs (X ++ x) w0 w' ∧ Lib.OthersKept 5 (some b) w w') := by
  refine (write_w h.p s x hx (by rw [List.length_append, Lib.byteCells_length]; omega) h.size.1).mono ?_
  rintro e w2 ⟨rfl, h1⟩
  exact ⟨rfl, (h.step h1).2, h1.2.2.2⟩

set_option maxHeartbeats 8000000 in
set_option maxRecDepth 100000 in
theorem told1 (k : VH) (hk : k.kind = 1) (hn : -9223372036854775808 ≤ k.n ∧ k.n ≤ 9223372036854775807) (B b : Nat) (bs : List Value) (w : World) (An : Option Addr) (m cn : Nat) (A : Option Addr) (n c : Nat) (hp : Prn B b bs w) (hB : B ≤ w.heap.size) (hl : bs.length + (Lib.itoa k.n).length ≤ lim) (hT : TbB B w) :
    Calls Tryd.prog 41 #[.pointer (some ⟨b, 0, none⟩), .agg (varr k An m cn A n c)] w (Wrt B b bs (Lib.itoa k.n) w) := by
  have hbl := hp.lt
  have b1 := bel1 w (.cells (varr k An m cn A n c) 34)
  have R1 := Lib.hid (RowB.new w 34 (varr k An m cn A n c))
  obtain ⟨W, hW⟩ : ∃ W, W = w.alloc (.cells (varr k An m cn A n c) 34) := ⟨_, rfl⟩
  rw [← hW] at R1 b1
  have P0 := Lib.hid ((Pw.start hp hB).other b1)
  have HTB := Lib.hid (hT.step (b1.mono hB))
  have n1 : w.heap.size ≠ b := by omega
  have r1 := R1.out.cell
  have HK := Lib.hid hk
  have e0 : (k.kind == 1) = true := by rw [beq_iff_eq]; exact hk
  have HL := Lib.hid hl
  clear b1 hp hT hk hl
  go_enter Tryd.func41, Tryd.ntmps41
  go_upto_region 3 with fail
  rw [← hW]
  clear r1 hW
  have D1 : Below W.heap.size W W.drew := Below.drew (Below.refl _ _)
  have P1 := Lib.hid (P0.out.other D1)
  have R2 : Hid (RowB W.drew w.heap.size 34 (varr k An m cn A n c)) := R1.out
  have HT1 := Lib.hid ((HTB.out.step (D1.mono P0.out.size.1)))
  refine wp_region_G (S := SG (fun w' => RowB w' w.heap.size 34 (varr k An m cn A n c)) 99 (fun _ => True) 99 (fun _ => True)) (by kernel_rfl) ⟨R2.out, fun _ => trivial, fun _ => trivial⟩ (fun hS => ?_)
  obtain ⟨w1, hw1⟩ : ∃ w1, w1 = W.drew := ⟨_, rfl⟩
  rw [← hw1] at hS P1 R2 HT1 ⊢
  clear hw1 D1 P0 R1 HTB
  refine wpG_take0 (i := 0) (v := ?v1) rfl (by kernel_rfl) (by kernel_rfl) (by kernel_rfl) (by decide) (by decide) (fun _ _ _ h => h) hS (Or.inl ⟨by rfl, ?hy1⟩) ?rest1
  case hy1 => (intro w' hw; (try dsimp only at hw); have u0 := hw.cell; go_simp; try with_reducible rfl)
  replace hS := SG.set (i := 0) (by decide) (by decide) hS
  try simp only [Act.put, List.setIfInBounds_toArray, List.set_cons_zero, List.set_cons_succ]
  refine wpG_take0 (i := 1) (v := ?v2) rfl (by kernel_rfl) (by kernel_rfl) (by kernel_rfl) (by decide) (by decide) (fun _ _ _ h => h) hS (Or.inl ⟨by rfl, ?hy2⟩) ?rest2
  case hy2 => (intro w' hw; (try dsimp only at hw); have u0 := hw.cell; go_simp; try with_reducible rfl)
  replace hS := SG.set (i := 1) (by decide) (by decide) hS
  try simp only [Act.put, List.setIfInBounds_toArray, List.set_cons_zero, List.set_cons_succ]
  refine wpG_take0 (i := 2) (v := ?v3) rfl (by kernel_rfl) (by kernel_rfl) (by kernel_rfl) (by decide) (by decide) (fun _ _ _ h => h) hS (Or.inl ⟨by rfl, ?hy3⟩) ?rest3
  case hy3 => (intro w' hw; (try dsimp only at hw); have u0 := hw.cell; go_simp; try with_reducible rfl)
  replace hS := SG.set (i := 2) (by decide) (by decide) hS
  try simp only [Act.put, List.setIfInBounds_toArray, List.set_cons_zero, List.set_cons_succ]
  refine wpG_take0 (i := 3) (v := ?v4) rfl (by kernel_rfl) (by kernel_rfl) (by kernel_rfl) (by decide) (by decide) (fun _ _ _ h => h) hS (Or.inl ⟨by rfl, ?hy4⟩) ?rest4
  case hy4 => (intro w' hw; (try dsimp only at hw); have u0 := hw.cell; go_simp; try with_reducible rfl)
  replace hS := SG.set (i := 3) (by decide) (by decide) hS
  try simp only [Act.put, List.setIfInBounds_toArray, List.set_cons_zero, List.set_cons_succ]
  refine wpG_take0 (i := 4) (v := ?v5) rfl (by kernel_rfl) (by kernel_rfl) (by kernel_rfl) (by decide) (by decide) (fun _ _ _ h => h) hS (Or.inl ⟨by rfl, ?hy5⟩) ?rest5
  case hy5 => (intro w' hw; (try dsimp only at hw); have u0 := hw.cell; go_simp; try with_reducible rfl)
  replace hS := SG.set (i := 4) (by decide) (by decide) hS
  try simp only [Act.put, List.setIfInBounds_toArray, List.set_cons_zero, List.set_cons_succ]
  refine wpG_ready (rs := [5]) (by kernel_rfl) (by simp) ?_
  refine RG.cons rfl rfl (fun K hK => ?_) RG.nil
  go_simp
  refine (fmt_any k.n hn.1 hn.2 w1 (HT1.out.tb P1.out.size.1)).mono ?_
  rintro e w2 ⟨rfl, h2⟩
  go_wp2_with fail
  have HP2 := Lib.hid (P1.out.other h2)
  have R3 := Lib.hid (R2.out.below h2 R2.out.lt)
  clear h2
  refine hK.out _ _ ⟨R3.out, fun _ => trivial, fun _ => trivial⟩ (fun hS => ?_)
  clear hK K
  try simp only [Act.put, List.setIfInBounds_toArray, List.set_cons_zero, List.set_cons_succ]
  refine wpG_ready (rs := [6]) (by kernel_rfl) (by simp) ?_
  refine RG.cons rfl rfl (fun K hK => ?_) RG.nil
  go_simp
  refine (HP2.out.write' _ (Lib.itoa k.n) (by simp) HL.out (by simp)).mono ?_
  rintro e w3 ⟨rfl, hp3⟩
  go_wp2_with fail
  have HP3 := Lib.hid hp3.1
  have R4 := row_others R3.out hp3.2 n1 (by decide)
  clear hp3
  refine hK.out _ _ ⟨R4, fun _ => trivial, fun _ => trivial⟩ (fun hS => ?_)
  clear hK K
  try simp only [Act.put, List.setIfInBounds_toArray, List.set_cons_zero, List.set_cons_succ]
  refine wpG_done (by kernel_rfl) ?_ _
  clear hS
  go_wp2_with fail
  go_end0
  exact ⟨rfl, by simpa using HP3.out.p, HP3.out.bl, HP3.out.oth⟩

set_option maxHeartbeats 8000000 in
set_option maxRecDepth 100000 in
theorem told2 (k : VH) (hk : k.kind = 2) (hs : k.s.size ≤ 100000) (B b : Nat) (bs : List Value) (w : World) (An : Option Addr) (m cn : Nat) (A : Option Addr) (n c : Nat) (hp : Prn B b bs w) (hB : B ≤ w.heap.size) (hl : bs.length + (Qt.quoL k.s.data.toList).length ≤ lim) (hT : TbB B w) :
    Calls Tryd.prog 41 #[.pointer (some ⟨b, 0, none⟩), .agg (varr k An m cn A n c)] w (Wrt B b bs (Qt.quoL k.s.data.toList) w) := by
  have hbl := hp.lt
  have b1 := bel1 w (.cells (varr k An m cn A n c) 34)
  have R1 := Lib.hid (RowB.new w 34 (varr k An m cn A n c))
  obtain ⟨W, hW⟩ : ∃ W, W = w.alloc (.cells (varr k An m cn A n c) 34) := ⟨_, rfl⟩
  rw [← hW] at R1 b1
  have P0 := Lib.hid ((Pw.start hp hB).other b1)
  have HTB := Lib.hid (hT.step (b1.mono hB))
  have n1 : w.heap.size ≠ b := by omega
  have r1 := R1.out.cell
  have HK := Lib.hid hk
  have e0 : (k.kind == 2) = true := by rw [beq_iff_eq]; exact hk
  have e1 : (k.kind == 1) = false := by rw [beq_eq_false_iff_ne]; omega
  have HL := Lib.hid hl
  clear b1 hp hT hk hl
  go_enter Tryd.func41, Tryd.ntmps41
  go_upto_region 5 with fail
  rw [← hW]
  clear r1 hW
  have D1 : Below W.heap.size W W.drew := Below.drew (Below.refl _ _)
  have P1 := Lib.hid (P0.out.other D1)
  have R2 : Hid (RowB W.drew w.heap.size 34 (varr k An m cn A n c)) := R1.out
  have HT1 := Lib.hid ((HTB.out.step (D1.mono P0.out.size.1)))
  refine wp_region_G (S := SG (fun w' => RowB w' w.heap.size 34 (varr k An m cn A n c)) 99 (fun _ => True) 99 (fun _ => True)) (by kernel_rfl) ⟨R2.out, fun _ => trivial, fun _ => trivial⟩ (fun hS => ?_)
  obtain ⟨w1, hw1⟩ : ∃ w1, w1 = W.drew := ⟨_, rfl⟩
  rw [← hw1] at hS P1 R2 HT1 ⊢
  clear hw1 D1 P0 R1 HTB
  refine wpG_take0 (i := 0) (v := ?v6) rfl (by kernel_rfl) (by kernel_rfl) (by kernel_rfl) (by decide) (by decide) (fun _ _ _ h => h) hS (Or.inl ⟨by rfl, ?hy6⟩) ?rest6
  case hy6 => (intro w' hw; (try dsimp only at hw); have u0 := hw.cell; go_simp; try with_reducible rfl)
  replace hS := SG.set (i := 0) (by decide) (by decide) hS
  try simp only [Act.put, List.setIfInBounds_toArray, List.set_cons_zero, List.set_cons_succ]
  refine wpG_take0 (i := 1) (v := ?v7) rfl (by kernel_rfl) (by kernel_rfl) (by kernel_rfl) (by decide) (by decide) (fun _ _ _ h => h) hS (Or.inl ⟨by rfl, ?hy7⟩) ?rest7
  case hy7 => (intro w' hw; (try dsimp only at hw); have u0 := hw.cell; go_simp; try with_reducible rfl)
  replace hS := SG.set (i := 1) (by decide) (by decide) hS
  try simp only [Act.put, List.setIfInBounds_toArray, List.set_cons_zero, List.set_cons_succ]
  refine wpG_take0 (i := 2) (v := ?v8) rfl (by kernel_rfl) (by kernel_rfl) (by kernel_rfl) (by decide) (by decide) (fun _ _ _ h => h) hS (Or.inl ⟨by rfl, ?hy8⟩) ?rest8
  case hy8 => (intro w' hw; (try dsimp only at hw); have u0 := hw.cell; go_simp; try with_reducible rfl)
  replace hS := SG.set (i := 2) (by decide) (by decide) hS
  try simp only [Act.put, List.setIfInBounds_toArray, List.set_cons_zero, List.set_cons_succ]
  refine wpG_take0 (i := 3) (v := ?v9) rfl (by kernel_rfl) (by kernel_rfl) (by kernel_rfl) (by decide) (by decide) (fun _ _ _ h => h) hS (Or.inl ⟨by rfl, ?hy9⟩) ?rest9
  case hy9 => (intro w' hw; (try dsimp only at hw); have u0 := hw.cell; go_simp; try with_reducible rfl)
  replace hS := SG.set (i := 3) (by decide) (by decide) hS
  try simp only [Act.put, List.setIfInBounds_toArray, List.set_cons_zero, List.set_cons_succ]
  refine wpG_take0 (i := 4) (v := ?v10) rfl (by kernel_rfl) (by kernel_rfl) (by kernel_rfl) (by decide) (by decide) (fun _ _ _ h => h) hS (Or.inl ⟨by rfl, ?hy10⟩) ?rest10
  case hy10 => (intro w' hw; (try dsimp only at hw); have u0 := hw.cell; go_simp; try with_reducible rfl)
  replace hS := SG.set (i := 4) (by decide) (by decide) hS
  try simp only [Act.put, List.setIfInBounds_toArray, List.set_cons_zero, List.set_cons_succ]
  refine wpG_ready (rs := [5]) (by kernel_rfl) (by simp) ?_
  refine RG.cons rfl rfl (fun K hK => ?_) RG.nil
  go_simp
  refine (Qt.quote_any k.s w1 hs).mono ?_
  rintro e w2 ⟨rfl, h2⟩
  go_wp2_with fail
  have HP2 := Lib.hid (P1.out.other h2)
  have R3 := Lib.hid (R2.out.below h2 R2.out.lt)
  clear h2
  refine hK.out _ _ ⟨R3.out, fun _ => trivial, fun _ => trivial⟩ (fun hS => ?_)
  clear hK K
  try simp only [Act.put, List.setIfInBounds_toArray, List.set_cons_zero, List.set_cons_succ]
  refine wpG_ready (rs := [6]) (by kernel_rfl) (by simp) ?_
  refine RG.cons rfl rfl (fun K hK => ?_) RG.nil
  go_simp
  refine (HP2.out.write' _ (Qt.quoL k.s.data.toList) (by simp) HL.out (by simp)).mono ?_
  rintro e w3 ⟨rfl, hp3⟩
  go_wp2_with fail
  have HP3 := Lib.hid hp3.1
  have R4 := row_others R3.out hp3.2 n1 (by decide)
  clear hp3
  refine hK.out _ _ ⟨R4, fun _ => trivial, fun _ => trivial⟩ (fun hS => ?_)
  clear hK K
  try simp only [Act.put, List.setIfInBounds_toArray, List.set_cons_zero, List.set_cons_succ]
  refine wpG_done (by kernel_rfl) ?_ _
  clear hS
  go_wp2_with fail
  go_end0
  exact ⟨rfl, by simpa using HP3.out.p, HP3.out.bl, HP3.out.oth⟩

set_option maxHeartbeats 8000000 in
set_option maxRecDepth 100000 in
theorem told4 (k : VH) (hk : k.kind = 4) (hn : -9223372036854775808 ≤ k.n ∧ k.n ≤ 9223372036854775807) (B b : Nat) (bs : List Value) (w : World) (An : Option Addr) (m cn : Nat) (A : Option Addr) (n c : Nat) (hp : Prn B b bs w) (hB : B ≤ w.heap.size) (hl : bs.length + ([102, 110, 47] ++ Lib.itoa k.n).length ≤ lim) (hT : TbB B w) :
    Calls Tryd.prog 41 #[.pointer (some ⟨b, 0, none⟩), .agg (varr k An m cn A n c)] w (Wrt B b bs ([102, 110, 47] ++ Lib.itoa k.n) w) := by
  have hbl := hp.lt
  have b1 := bel1 w (.cells (varr k An m cn A n c) 34)
  have R1 := Lib.hid (RowB.new w 34 (varr k An m cn A n c))
  obtain ⟨W, hW⟩ : ∃ W, W = w.alloc (.cells (varr k An m cn A n c) 34) := ⟨_, rfl⟩
  rw [← hW] at R1 b1
  have P0 := Lib.hid ((Pw.start hp hB).other b1)
  have HTB := Lib.hid (hT.step (b1.mono hB))
  have n1 : w.heap.size ≠ b := by omega
  have r1 := R1.out.cell
  have HK := Lib.hid hk
  have e0 : (k.kind == 4) = true := by rw [beq_iff_eq]; exact hk
  have e1 : (k.kind == 1) = false := by rw [beq_eq_false_iff_ne]; omega
  have e2 : (k.kind == 2) = false := by rw [beq_eq_false_iff_ne]; omega
  have HL := Lib.hid hl
  clear b1 hp hT hk hl
  go_enter Tryd.func41, Tryd.ntmps41
  go_upto_region 7 with fail
  rw [← hW]
  clear r1 hW
  have D1 : Below W.heap.size W W.drew := Below.drew (Below.refl _ _)
  have P1 := Lib.hid (P0.out.other D1)
  have R2 : Hid (RowB W.drew w.heap.size 34 (varr k An m cn A n c)) := R1.out
  have HT1 := Lib.hid ((HTB.out.step (D1.mono P0.out.size.1)))
  refine wp_region_G (S := SG (fun w' => RowB w' w.heap.size 34 (varr k An m cn A n c)) 99 (fun _ => True) 99 (fun _ => True)) (by kernel_rfl) ⟨R2.out, fun _ => trivial, fun _ => trivial⟩ (fun hS => ?_)
  obtain ⟨w1, hw1⟩ : ∃ w1, w1 = W.drew := ⟨_, rfl⟩
  rw [← hw1] at hS P1 R2 HT1 ⊢
  clear hw1 D1 P0 R1 HTB
  refine wpG_take0 (i := 0) (v := ?v11) rfl (by kernel_rfl) (by kernel_rfl) (by kernel_rfl) (by decide) (by decide) (fun _ _ _ h => h) hS (Or.inl ⟨by rfl, ?hy11⟩) ?rest11
  case hy11 => (intro w' hw; (try dsimp only at hw); have u0 := hw.cell; go_simp; try with_reducible rfl)
  replace hS := SG.set (i := 0) (by decide) (by decide) hS
  try simp only [Act.put, List.setIfInBounds_toArray, List.set_cons_zero, List.set_cons_succ]
  refine wpG_take0 (i := 1) (v := ?v12) rfl (by kernel_rfl) (by kernel_rfl) (by kernel_rfl) (by decide) (by decide) (fun _ _ _ h => h) hS (Or.inl ⟨by rfl, ?hy12⟩) ?rest12
  case hy12 => (intro w' hw; (try dsimp only at hw); have u0 := hw.cell; go_simp; try with_reducible rfl)
  replace hS := SG.set (i := 1) (by decide) (by decide) hS
  try simp only [Act.put, List.setIfInBounds_toArray, List.set_cons_zero, List.set_cons_succ]
  refine wpG_take0 (i := 2) (v := ?v13) rfl (by kernel_rfl) (by kernel_rfl) (by kernel_rfl) (by decide) (by decide) (fun _ _ _ h => h) hS (Or.inl ⟨by rfl, ?hy13⟩) ?rest13
  case hy13 => (intro w' hw; (try dsimp only at hw); have u0 := hw.cell; go_simp; try with_reducible rfl)
  replace hS := SG.set (i := 2) (by decide) (by decide) hS
  try simp only [Act.put, List.setIfInBounds_toArray, List.set_cons_zero, List.set_cons_succ]
  refine wpG_take0 (i := 3) (v := ?v14) rfl (by kernel_rfl) (by kernel_rfl) (by kernel_rfl) (by decide) (by decide) (fun _ _ _ h => h) hS (Or.inl ⟨by rfl, ?hy14⟩) ?rest14
  case hy14 => (intro w' hw; (try dsimp only at hw); have u0 := hw.cell; go_simp; try with_reducible rfl)
  replace hS := SG.set (i := 3) (by decide) (by decide) hS
  try simp only [Act.put, List.setIfInBounds_toArray, List.set_cons_zero, List.set_cons_succ]
  refine wpG_take0 (i := 4) (v := ?v15) rfl (by kernel_rfl) (by kernel_rfl) (by kernel_rfl) (by decide) (by decide) (fun _ _ _ h => h) hS (Or.inl ⟨by rfl, ?hy15⟩) ?rest15
  case hy15 => (intro w' hw; (try dsimp only at hw); have u0 := hw.cell; go_simp; try with_reducible rfl)
  replace hS := SG.set (i := 4) (by decide) (by decide) hS
  try simp only [Act.put, List.setIfInBounds_toArray, List.set_cons_zero, List.set_cons_succ]
  refine wpG_ready (rs := [5]) (by kernel_rfl) (by simp) ?_
  refine RG.cons rfl rfl (fun K hK => ?_) RG.nil
  go_simp
  refine (fmt_any k.n hn.1 hn.2 w1 (HT1.out.tb P1.out.size.1)).mono ?_
  rintro e w2 ⟨rfl, h2⟩
  go_wp2_with fail
  have HP2 := Lib.hid (P1.out.other h2)
  have R3 := Lib.hid (R2.out.below h2 R2.out.lt)
  clear h2
  refine hK.out _ _ ⟨R3.out, fun _ => trivial, fun _ => trivial⟩ (fun hS => ?_)
  clear hK K
  try simp only [Act.put, List.setIfInBounds_toArray, List.set_cons_zero, List.set_cons_succ]
  have q9 : ¬ 9223372036854775807 < 3 + (Lib.itoa k.n).length := by have h9 := HL.out; unfold lim at h9; simp only [List.length_append, List.length_cons, List.length_nil] at h9; omega
  refine wpG_take0 (i := 6) (v := ?v16) rfl (by kernel_rfl) (by kernel_rfl) (by kernel_rfl) (by decide) (by decide) (fun _ _ _ h => h) hS (Or.inl ⟨by rfl, ?hy16⟩) ?rest16
  case hy16 => (intro w' hw; (try dsimp only at hw); have u0 := hw.cell; go_simp; try with_reducible rfl)
  replace hS := SG.set (i := 6) (by decide) (by decide) hS
  try simp only [Act.put, List.setIfInBounds_toArray, List.set_cons_zero, List.set_cons_succ]
  clear q9
  refine wpG_ready (rs := [7]) (by kernel_rfl) (by simp) ?_
  refine RG.cons rfl rfl (fun K hK => ?_) RG.nil
  go_simp
  refine (HP2.out.write' _ ([102, 110, 47] ++ Lib.itoa k.n) (by simp) HL.out (by simp)).mono ?_
  rintro e w3 ⟨rfl, hp3⟩
  go_wp2_with fail
  have HP3 := Lib.hid hp3.1
  have R4 := row_others R3.out hp3.2 n1 (by decide)
  clear hp3
  refine hK.out _ _ ⟨R4, fun _ => trivial, fun _ => trivial⟩ (fun hS => ?_)
  clear hK K
  try simp only [Act.put, List.setIfInBounds_toArray, List.set_cons_zero, List.set_cons_succ]
  refine wpG_done (by kernel_rfl) ?_ _
  clear hS
  go_wp2_with fail
  go_end0
  exact ⟨rfl, by simpa using HP3.out.p, HP3.out.bl, HP3.out.oth⟩

end Vm
end Go.Proofs.YtbjlhdjcdinmhaaDoor
