/- Contracts: which types go where, by the program. -/
import Derived.Test.YtifkjngclkklfaaGreatDoorMGo
import Derived.Test.YtifkjngclkklfaaGreatDoorMGn
import Derived.Test.YtifkjngclkklfaaGreatDoorWQ
import Derived.Test.YtifkjngclkklfaaGreatDoorMGg
import Derived.Test.YtifkjngclkklfaaGreatDoorMGh
import Derived.Lib.QuietBelow
namespace Go.Proofs.YtifkjngclkklfaaGreatDoor
open Go.RowKit Go.Op
namespace Tm
theorem flows_mk (ka : Int) (an : List ByteArray) (ap : List Ty) (kb : Int) (bn : List ByteArray) (bp : List Ty) : flows (.mk ka an ap) (.mk kb bn bp) =
    if ka = 0 ∨ kb = 0 then true
    else if ka ≠ kb then false
    else if ka = 3 then flRec flows an ap bn bp
    else if ka = 4 then flFn flows ap bp
    else decide (ka = 1 ∨ ka = 2) := flows_eq (.mk ka an ap) (.mk kb bn bp)
set_option maxHeartbeats 4000000 in
set_option maxRecDepth 100000 in
theorem pflows_step (a b : Ty) (ra : a.right = true) (rb : b.right = true) (la : a.cnt ≤ 1000001) (lb : b.cnt ≤ 1000001) (I1 : FlowsIH 32 a.parts b.parts) (I2 : FlowsIH 32 b.parts a.parts)
    (w : World) (P P' : Nat → Prop) (An : Option Addr) (cn : Nat) (A : Option Addr) (c : Nat) (Bn : Option Addr) (dn : Nat) (B : Option Addr) (d : Nat) (hA : TI w P a An cn A c) (hB : TI w P' b Bn dn B d) (r : Bool) (hr : r = flows a b) :
    Calls Tryz.prog 32 #[tv a An cn A c, tv b Bn dn B d] w fun e w' => e = .returned (.bool r) ∧ Below w.heap.size w w' := by
  have l1 := cnt_names a
  have l2 := cnt_len a
  have l3 := cnt_names b
  have l4 := cnt_len b
  obtain ⟨ka, an, ap⟩ := a
  obtain ⟨kb, bn, bp⟩ := b
  obtain ⟨hAn, hAp⟩ := TI_iff.1 hA
  obtain ⟨hBn, hBp⟩ := TI_iff.1 hB
  simp only [names_mk, parts_mk] at *
  have b1 : Below w.heap.size w (w.alloc (.cells (tarr ka An an.length cn A ap.length c) 25)) := bel1 w _
  have b2 : Below (w.alloc (.cells (tarr ka An an.length cn A ap.length c) 25)).heap.size (w.alloc (.cells (tarr ka An an.length cn A ap.length c) 25)) _ := bel1 _ (.cells (tarr kb Bn bn.length dn B bp.length d) 25)
  have HB0 := Lib.hid (b1.trans (b2.mono b1.size))
  have R1 := Lib.hid ((RowB.new w 25 (tarr ka An an.length cn A ap.length c)).alloc (.cells (tarr kb Bn bn.length dn B bp.length d) 25))
  have R2 : Hid (RowB ((w.alloc (.cells (tarr ka An an.length cn A ap.length c) 25)).alloc (.cells (tarr kb Bn bn.length dn B bp.length d) 25)) (w.heap.size + 1) 25 (tarr kb Bn bn.length dn B bp.length d)) := by
    have := RowB.new (w.alloc (.cells (tarr ka An an.length cn A ap.length c) 25)) 25 (tarr kb Bn bn.length dn B bp.length d)
    unfold Hid
    simpa using this
  have r1 := R1.out.cell
  have r2 := R2.out.cell
  have hAn2 := (hAn.below b1).below b2
  have hAp2 := (hAp.below b1).below b2
  have hBn2 := (hBn.below b1).below b2
  have hBp2 := (hBp.below b1).below b2
  rw [flows_mk] at hr
  clear hA hB hAn hAp hBn hBp b1 b2
  by_cases k0 : ka = 0
  · rw [if_pos (.inl k0)] at hr
    subst k0 hr
    clear ra rb la lb I1 I2 hAn2 hAp2 hBn2 hBp2
    go_enter Tryz.func32, Tryz.ntmps32
    go_wp2_with fail
    (first | go_ret | go_ret2)
    exact ⟨rfl, HB0.out⟩
  have e0 : (ka == 0) = false := by rw [beq_eq_false_iff_ne]; exact k0
  by_cases k1 : kb = 0
  · rw [if_pos (.inr k1)] at hr
    subst k1 hr
    clear ra rb la lb I1 I2 hAn2 hAp2 hBn2 hBp2 k0
    go_enter Tryz.func32, Tryz.ntmps32
    go_wp2_with fail
    (first | go_ret | go_ret2)
    exact ⟨rfl, HB0.out⟩
  have e1 : (kb == 0) = false := by rw [beq_eq_false_iff_ne]; exact k1
  rw [if_neg (show ¬ (ka = 0 ∨ kb = 0) by omega)] at hr
  by_cases k2 : ka = kb
  case neg =>
    rw [if_pos k2] at hr
    have e2 : (ka != kb) = true := by rw [bne_iff_ne]; exact k2
    subst hr
    clear ra rb la lb I1 I2 hAn2 hAp2 hBn2 hBp2 k0 k1 k2
    go_enter Tryz.func32, Tryz.ntmps32
    go_wp2_with fail
    (first | go_ret | go_ret2)
    exact ⟨rfl, HB0.out⟩
  subst k2
  rw [if_neg (show ¬ (ka ≠ ka) from fun h => h rfl)] at hr
  by_cases k3 : ka = 3
  · subst k3
    rw [if_pos rfl] at hr
    have C := Lib.hid (precflows_any _ an bn ap bp P P' An cn A c Bn dn B d hAn2 hAp2 hBn2 hBp2 ra rb (by omega) (by omega) I1 r hr)
    clear ra rb la lb I1 I2 hAn2 hAp2 hBn2 hBp2 k0 k1 hr
    go_enter Tryz.func32, Tryz.ntmps32
    go_wp2_with fail
    refine C.out.mono ?_
    rintro e w1 ⟨rfl, h1⟩
    have HB1 := Lib.hid (HB0.out.trans (h1.mono HB0.out.size))
    clear h1 C r1 r2
    go_wp2_with fail
    (first | go_ret | go_ret2)
    exact ⟨rfl, HB1.out⟩
  rw [if_neg k3] at hr
  by_cases k4 : ka = 4
  · subst k4
    rw [if_pos rfl] at hr
    have C := Lib.hid (pfnflows_any _ 4 4 An an.length cn ap P P' A c Bn bn.length dn bp B d hAp2 hBp2 (right_fn ra rfl).2 (right_fn rb rfl).2 (by omega) (by omega) I1 I2 r hr)
    clear ra rb la lb I1 I2 hAn2 hAp2 hBn2 hBp2 k0 k1 hr k3
    go_enter Tryz.func32, Tryz.ntmps32
    go_wp2_with fail
    refine C.out.mono ?_
    rintro e w1 ⟨rfl, h1⟩
    have HB1 := Lib.hid (HB0.out.trans (h1.mono HB0.out.size))
    clear h1 C r1 r2
    go_wp2_with fail
    (first | go_ret | go_ret2)
    exact ⟨rfl, HB1.out⟩
  rw [if_neg k4] at hr
  have hk := (right_plain ra k3 k4).1
  simp only [kind_mk] at hk
  rw [decide_eq_true (show ka = 1 ∨ ka = 2 by omega)] at hr
  subst hr
  clear ra rb la lb I1 I2 hAn2 hAp2 hBn2 hBp2 k1 k3 k4
  rcases (by omega : ka = 1 ∨ ka = 2) with rfl | rfl
  · go_enter Tryz.func32, Tryz.ntmps32
    go_wp2_with fail
    (first | go_ret | go_ret2)
    exact ⟨rfl, HB0.out⟩
  · go_enter Tryz.func32, Tryz.ntmps32
    go_wp2_with fail
    (first | go_ret | go_ret2)
    exact ⟨rfl, HB0.out⟩
theorem pflows_all : ∀ (n : Nat) (a b : Ty), a.depth ≤ n → b.depth ≤ n → a.right = true → b.right = true → a.cnt ≤ 1000001 → b.cnt ≤ 1000001 → ∀ (w : World) (P P' : Nat → Prop) (An : Option Addr) (cn : Nat) (A : Option Addr) (c : Nat) (Bn : Option Addr) (dn : Nat) (B : Option Addr) (d : Nat), TI w P a An cn A c → TI w P' b Bn dn B d →
    Calls Tryz.prog 32 #[tv a An cn A c, tv b Bn dn B d] w fun e w' => e = .returned (.bool (flows a b)) ∧ Below w.heap.size w w' := by
  intro n
  induction n with
  | zero => intro a _ h; have := a.depth_pos; omega
  | succ n ih =>
    intro a b da db ra rb la lb w P P' An cn A c Bn dn B d hA hB
    refine pflows_step a b ra rb la lb (fun x hx y hy => ?_) (fun x hx y hy => ?_) w P P' An cn A c Bn dn B d hA hB _ rfl
    · have := depth_part hx; have := depth_part hy; have := cnt_part hx; have := cnt_part hy
      exact ih x y (by omega) (by omega) (right_part ra hx) (right_part rb hy) (by omega) (by omega)
    · have := depth_part hx; have := depth_part hy; have := cnt_part hx; have := cnt_part hy
      exact ih x y (by omega) (by omega) (right_part rb hx) (right_part ra hy) (by omega) (by omega)
theorem pflows_any {a b : Ty} (ra : a.right = true) (rb : b.right = true) (la : a.cnt ≤ 1000001) (lb : b.cnt ≤ 1000001) (w : World) (P P' : Nat → Prop) (An : Option Addr) (cn : Nat) (A : Option Addr) (c : Nat) (Bn : Option Addr) (dn : Nat) (B : Option Addr) (d : Nat) (hA : TI w P a An cn A c) (hB : TI w P' b Bn dn B d) :
    Calls Tryz.prog 32 #[tv a An cn A c, tv b Bn dn B d] w fun e w' => e = .returned (.bool (flows a b)) ∧ Below w.heap.size w w' :=
  pflows_all (max a.depth b.depth) a b (by omega) (by omega) ra rb la lb w P P' An cn A c Bn dn B d hA hB

set_option maxHeartbeats 2000000 in
set_option maxRecDepth 100000 in
theorem needs_any {a b : Ty} (la : a.cnt ≤ 1000001) (lb : b.cnt ≤ 1000001) (w : World) (P P' : Nat → Prop) (An : Option Addr) (cn : Nat) (A : Option Addr) (c : Nat) (Bn : Option Addr) (dn : Nat) (B : Option Addr) (d : Nat) (hA : TI w P a An cn A c) (hB : TI w P' b Bn dn B d) :
    Calls Tryz.prog 34 #[tv a An cn A c, tv b Bn dn B d] w fun e w' => e = .returned (.bool (decide (b.kind ≠ 0) && !(a.same b))) ∧ Below w.heap.size w w' := by
  have b1 : Below w.heap.size w (w.alloc (.cells (tarr a.kind An a.names.length cn A a.parts.length c) 25)) := bel1 w _
  have b2 : Below (w.alloc (.cells (tarr a.kind An a.names.length cn A a.parts.length c) 25)).heap.size (w.alloc (.cells (tarr a.kind An a.names.length cn A a.parts.length c) 25)) _ := bel1 _ (.cells (tarr b.kind Bn b.names.length dn B b.parts.length d) 25)
  have HB0 := Lib.hid (b1.trans (b2.mono b1.size))
  have R1 := Lib.hid ((RowB.new w 25 (tarr a.kind An a.names.length cn A a.parts.length c)).alloc (.cells (tarr b.kind Bn b.names.length dn B b.parts.length d) 25))
  have R2 : Hid (RowB ((w.alloc (.cells (tarr a.kind An a.names.length cn A a.parts.length c) 25)).alloc (.cells (tarr b.kind Bn b.names.length dn B b.parts.length d) 25)) (w.heap.size + 1) 25 (tarr b.kind Bn b.names.length dn B b.parts.length d)) := by
    have := RowB.new (w.alloc (.cells (tarr a.kind An a.names.length cn A a.parts.length c) 25)) 25 (tarr b.kind Bn b.names.length dn B b.parts.length d)
    unfold Hid
    simpa using this
  have C := Lib.hid (psame_any a la b lb _ P P' An cn A c Bn dn B d ((hA.below b1).below b2) ((hB.below b1).below b2))
  generalize a.same b = z at *
  obtain ⟨y, hy⟩ : ∃ y, y = decide (b.kind ≠ 0) := ⟨_, rfl⟩
  rw [← hy]
  have r1 := R1.out.cell
  have r2 := R2.out.cell
  clear b1 b2 hA hB la lb
  obtain ⟨ka, an, ap⟩ := a
  obtain ⟨kb, bn, bp⟩ := b
  simp only [kind_mk, names_mk, parts_mk] at *
  by_cases k0 : kb = 0
  · subst k0
    have hy2 : y = false := by rw [hy]; rfl
    subst hy2
    clear C hy
    go_enter Tryz.func34, Tryz.ntmps34
    go_wp2_with fail
    (first | go_ret | go_ret2)
    exact ⟨rfl, HB0.out⟩
  · have e0 : (kb != 0) = true := by rw [bne_iff_ne]; exact k0
    have hy2 : y = true := by rw [hy]; simp [k0]
    subst hy2
    clear k0 hy
    go_enter Tryz.func34, Tryz.ntmps34
    go_wp2_with fail
    refine C.out.mono ?_
    rintro e w1 ⟨rfl, h1⟩
    have HB1 := Lib.hid (HB0.out.trans (h1.mono HB0.out.size))
    clear h1 C r1 r2
    go_wp2_with fail
    (first | go_ret | go_ret2)
    exact ⟨by simp, HB1.out⟩
end Tm
end Go.Proofs.YtifkjngclkklfaaGreatDoor
/- Contracts: what a tree tells, by the program, given what a function's nodes tell (f101). -/
namespace Go.Proofs.YtifkjngclkklfaaGreatDoor
open Go.RowKit Go.Op
namespace Tm
open Ps Pg
/-- A forest's words and widths are within bounds, at any depth. -/
def fok : Fo → Prop
  | .nil => True
  | .cons h k r => h.word.size ≤ 140737488351232 ∧ k.len ≤ 1000001 ∧ fok k ∧ fok r
theorem fok_word : ∀ (k : Fo) (i : Nat) (h : Hd) (kk r : Fo), fok k → k.drop i = .cons h kk r → h.word.size ≤ 140737488351232
  | .nil, i, h, kk, r, _, e => by cases i <;> simp [Fo.drop] at e
  | .cons h' k' r', 0, h, kk, r, hf, e => by
    rw [Fo.drop] at e
    injection e with e1 e2 e3
    subst e1
    exact hf.1
  | .cons h' k' r', i + 1, h, kk, r, hf, e => by
    rw [Fo.drop] at e
    exact fok_word r' i h kk r hf.2.2.2 e
/-- What is known of a forest's nodes. -/
def TK (k : Fo) : Prop := ∀ i h kk r, k.drop i = .cons h kk r → ∀ (w' : World) (P' : Nat → Prop) (A3 : Option Addr) (c3 : Nat), KV w' P' kk A3 c3 → Calls Tryz.prog 78 #[nvv h A3 kk.len c3] w' (ToldQ (node h kk.len (tri kk).2.1 (tri kk).2.2) w')
/-- What is known of a function's nodes. -/
def FnC (k : Fo) : Prop := ∀ (w' : World) (P' : Nat → Prop) (A : Option Addr) (cap : Nat), KV w' P' k A cap → Calls Tryz.prog 101 #[.slice A k.len cap] w' (ToldQ (fnEnd k.len (tri k).2.2) w')
/-- No node tells of a function. -/
def noFn : Fo → Prop
  | .nil => True
  | .cons h k r => h.kind ≠ 34 ∧ noFn k ∧ noFn r
theorem told_all (HFn : ∀ k : Fo, fok k → k.len ≤ 1000001 → TK k → FnC k) : ∀ k : Fo, fok k → TK k ∧ TIH k
  | .nil, _ => ⟨fun i h kk r e => by cases i <;> simp [Fo.drop] at e, fun i h kk r e => by cases i <;> simp [Fo.drop] at e⟩
  | .cons h0 k0 r0, hf => by
    obtain ⟨f1, f2, f3, f4⟩ := hf
    obtain ⟨a1, a2⟩ := told_all HFn k0 f3
    obtain ⟨c1, c2⟩ := told_all HFn r0 f4
    refine ⟨fun i h kk r e => ?_, fun i h kk r e => ?_⟩
    · cases i with
      | zero =>
        rw [Fo.drop] at e
        injection e with e1 e2 e3
        subst e1 e2
        intro w' P' A3 c3 hk
        exact told_node w' h0 k0 P' A3 c3 hk (fun _ w2 P2 h2 => trec_step w2 k0 P2 A3 c3 h2 f2 (fun i h kk r e => fok_word k0 i h kk r f3 e) a2) (fun _ w2 P2 h2 => HFn k0 f3 f2 a1 w2 P2 A3 c3 h2)
      | succ i =>
        rw [Fo.drop] at e
        exact c1 i h kk r e
    · cases i with
      | zero =>
        rw [Fo.drop] at e
        injection e with e1 e2 e3
        subst e1 e2
        intro h2 kk2 r2 e2 w' P' A3 c3 hk
        have := a1 0 h2 kk2 r2 (by rw [Fo.drop_zero]; exact e2) w' P' A3 c3 hk
        rw [e2]
        exact this
      | succ i =>
        rw [Fo.drop] at e
        exact c2 i h kk r e
theorem told_plain : ∀ k : Fo, fok k → noFn k → TK k ∧ TIH k
  | .nil, _, _ => ⟨fun i h kk r e => by cases i <;> simp [Fo.drop] at e, fun i h kk r e => by cases i <;> simp [Fo.drop] at e⟩
  | .cons h0 k0 r0, hf, hn => by
    obtain ⟨f1, f2, f3, f4⟩ := hf
    obtain ⟨n1, n2, n3⟩ := hn
    obtain ⟨a1, a2⟩ := told_plain k0 f3 n2
    obtain ⟨c1, c2⟩ := told_plain r0 f4 n3
    refine ⟨fun i h kk r e => ?_, fun i h kk r e => ?_⟩
    · cases i with
      | zero =>
        rw [Fo.drop] at e
        injection e with e1 e2 e3
        subst e1 e2
        intro w' P' A3 c3 hk
        exact told_node w' h0 k0 P' A3 c3 hk (fun _ w2 P2 h2 => trec_step w2 k0 P2 A3 c3 h2 f2 (fun i h kk r e => fok_word k0 i h kk r f3 e) a2) (fun h _ _ _ => absurd h n1)
      | succ i =>
        rw [Fo.drop] at e
        exact c1 i h kk r e
    · cases i with
      | zero =>
        rw [Fo.drop] at e
        injection e with e1 e2 e3
        subst e1 e2
        intro h2 kk2 r2 e2 w' P' A3 c3 hk
        have := a1 0 h2 kk2 r2 (by rw [Fo.drop_zero]; exact e2) w' P' A3 c3 hk
        rw [e2]
        exact this
      | succ i =>
        rw [Fo.drop] at e
        exact c2 i h kk r e
end Tm
end Go.Proofs.YtifkjngclkklfaaGreatDoor
/- Contracts: term.Of, given what the node tells. -/
namespace Go.Proofs.YtifkjngclkklfaaGreatDoor
open Go.RowKit Go.Op
namespace Tm
open Ps Pg
/-- What a tree is of. -/
def ofEnd (r : Int × Ty) : Int × Ty := if r.1 = 0 ∧ 12 < (r.2.depth : Int) then (25, dyn) else r
set_option maxHeartbeats 8000000 in
set_option maxRecDepth 100000 in
theorem tof_any (w : World) (h : Hd) (k : Fo) (P : Nat → Prop) (A : Option Addr) (cap : Nat) (hK : KV w P k A cap) (r : Int × Ty)
    (CT : ∀ w' P', KV w' P' k A cap → Calls Tryz.prog 78 #[nvv h A k.len cap] w' (ToldQ r w')) (hc : r.2.cnt ≤ 1000001) :
    Calls Tryz.prog 52 #[nvv h A k.len cap] w (ToldQ (ofEnd r) w) := by
  obtain ⟨z, t⟩ := r
  have b1 : Below w.heap.size w (w.alloc (.cells (ncc h A k.len cap) 71)) := bel1 w _
  have b2 : Below (w.alloc (.cells (ncc h A k.len cap) 71)).heap.size (w.alloc (.cells (ncc h A k.len cap) 71)) _ := bel1 _ (.cells tzc 25)
  have HB0 : Hid (Below w.heap.size w ((w.alloc (.cells (ncc h A k.len cap) 71)).alloc (.cells tzc 25))) := b1.trans (b2.mono b1.size)
  have R1 := Lib.hid ((RowB.new w 71 (ncc h A k.len cap)).alloc (.cells tzc 25))
  have R2 : Hid (RowB ((w.alloc (.cells (ncc h A k.len cap) 71)).alloc (.cells tzc 25)) (w.heap.size + 1) 25 tzc) := by
    have := RowB.new (w.alloc (.cells (ncc h A k.len cap) 71)) 25 tzc
    have h2 : (w.alloc (.cells (ncc h A k.len cap) 71)).heap.size = w.heap.size + 1 := by simp
    rw [h2] at this
    exact this
  have C := Lib.hid (CT _ _ (hK.below HB0.out))
  have HC := Lib.hid hc
  have r1 := R1.out.cell
  obtain ⟨q, hq⟩ : ∃ q, q = ofEnd (z, t) := ⟨_, rfl⟩
  rw [← hq]
  have HQ := Lib.hid hq
  clear b1 b2 CT hK hc hq
  go_enter Tryz.func52, Tryz.ntmps52
  go_wp2_with fail
  refine C.out.mono ?_
  rintro e w2 ⟨An', cn', A', c', rfl, hti, hb2⟩
  have Y2 := Lib.hid ((R2.out.below hb2 R2.out.lt).alloc (.cells (tarr t.kind An' t.names.length cn' A' t.parts.length c') 25))
  have y2 := Y2.out.cell
  have y2t := Y2.out.thaw
  have HB2 := Lib.hid (HB0.out.trans (hb2.mono HB0.out.size))
  have b3 := bel1 w2 (.cells (tarr t.kind An' t.names.length cn' A' t.parts.length c') 25)
  have HB3 := Lib.hid (HB2.out.trans (b3.mono HB2.out.size))
  have HTI := Lib.hid (hti.below b3)
  have HS : Hid (w.heap.size + 2 ≤ w2.heap.size) := by
    have := hb2.size
    simp at this
    exact this
  have CD := Lib.hid (pdepth_any t HC.out _ _ _ _ _ _ HTI.out)
  have R4 := Lib.hid (RowB.new w2 25 (tarr t.kind An' t.names.length cn' A' t.parts.length c'))
  have r4 := R4.out.cell
  have HW0 : Hid (((w.alloc (.cells (ncc h A k.len cap) 71)).alloc (.cells tzc 25)).heap.size = w.heap.size + 2) := by simp [Hid]
  obtain ⟨d, hd⟩ : ∃ d : Int, d = (t.depth : Int) := ⟨_, rfl⟩
  have HD := Lib.hid hd
  rw [← hd] at CD
  clear hti hb2 C b3 R1 R2 r1 hd
  by_cases hz : z = 0
  · subst hz
    go_wp2_with fail
    refine CD.out.mono ?_
    rintro e w3 ⟨rfl, hb4⟩
    have Y5 := Lib.hid (Y2.out.below hb4 Y2.out.lt)
    have y5 := Y5.out.cell
    have y5t := Y5.out.thaw
    have R6 := Lib.hid (R4.out.below hb4 R4.out.lt)
    have r6 := R6.out.cell
    have HB5 := Lib.hid (HB3.out.trans (hb4.mono HB3.out.size))
    have HTI2 := Lib.hid (HTI.out.below hb4)
    clear hb4 CD y2 y2t r4
    by_cases hdd : d > 12
    · obtain rfl : q = (25, dyn) := by rw [HQ.out]; unfold ofEnd; rw [if_pos ⟨rfl, by rw [← HD.out]; exact hdd⟩]
      go_wp2_with fail
      refine bodyPost_ret (v := .tuple #[tz, .int .i64 25]) ?_ rfl (ToldQ.none (below_put3 HB5.out (Nat.le_succ _) _ _ _))
      simp [results, Tryz.results52, go_sem, y5]
      try first | rfl | exact ⟨rfl, rfl⟩
    · obtain rfl : q = (0, t) := by
        rw [HQ.out]; unfold ofEnd
        rw [if_neg (fun h => hdd (by rw [HD.out]; exact h.2))]
      go_wp2_with fail
      refine bodyPost_ret (v := .tuple #[tv t An' cn' A' c', .int .i64 0]) ?_ rfl ⟨An', cn', A', c', rfl, HTI2.out.keep (by simp [World.setCell]) (fun g hg hl => ?_), below_put3 HB5.out (Nat.le_succ _) _ _ _⟩
      · simp [results, Tryz.results52, go_sem, y5]
        try first | rfl | exact ⟨rfl, rfl⟩
      · have h1 := HW0.out
        have h2 := hg
        have hx : g ≠ w.heap.size + 1 := by omega
        exact ⟨(Below.heap_setCell _ _ _ g hx).trans ((Below.heap_setCell _ _ _ g hx).trans (Below.heap_setCell _ _ _ g hx)), by omega⟩
  · obtain rfl : q = (z, t) := by
      rw [HQ.out]; unfold ofEnd
      rw [if_neg (fun h => hz h.1)]
    clear CD
    go_wp2_with fail
    refine bodyPost_ret (v := .tuple #[tv t An' cn' A' c', .int .i64 z]) ?_ rfl ⟨An', cn', A', c', rfl, HTI.out.keep (by simp [World.setCell]) (fun g hg hl => ?_), below_put3 HB3.out (Nat.le_succ _) _ _ _⟩
    · simp [results, Tryz.results52, go_sem, y2]
      try first | rfl | exact ⟨rfl, rfl⟩
    · have h1 := HW0.out
      have h2 := hg
      have hx : g ≠ w.heap.size + 1 := by omega
      exact ⟨(Below.heap_setCell _ _ _ g hx).trans ((Below.heap_setCell _ _ _ g hx).trans (Below.heap_setCell _ _ _ g hx)), by omega⟩
end Tm
end Go.Proofs.YtifkjngclkklfaaGreatDoor
/- Contracts: the program's reader: what has a word and a colon ahead. -/
namespace Go.Proofs.YtifkjngclkklfaaGreatDoor
open Go.RowKit
namespace Pg
open Ps

theorem wordM_snd {l : List Tok} (b : Int) (h h' : Hd) (i : Nat) : (wordM l b h i).2 = (wordM l b h' i).2 := by
  unfold wordM
  split
  · rfl
  · split <;> rfl
theorem wordS_good {X : Cx} {s : Sd} (h : (wordS X s).2 < 0) : s.2 < 0 ∧ wat X s = s.1 ∧ wordS X s = (s.1 + 1, s.2) ∧ ∀ hd, (wordM X.l s.2 hd s.1).1 = { hd with word := textAt X.l s.1, at_ := s.1 } := by
  unfold wordS at h
  have h1 := wordM_good h
  refine ⟨h1.1, ?_, ?_, fun hd => ?_⟩
  · unfold wat hasK
    rw [decide_eq_true h1.1, h1.2.1]
    rfl
  · unfold wordS
    rw [h1.2.2]
  · have h2 : (wordM X.l s.2 hd s.1).2.2 < 0 := by rw [wordM_snd s.2 hd ⟨0, 0, 0, e0, 0⟩ s.1]; exact h
    rw [(wordM_good h2).2.2]
theorem wordS_bad {X : Cx} {s : Sd} (h : 0 ≤ s.2) : wordS X s = s := by unfold wordS; rw [wordM_bad h]
theorem wantS_bad {X : Cx} {s : Sd} {x : List UInt8} (h : 0 ≤ s.2) : wantS X s x = s := by unfold wantS; rw [wantM_bad h]
theorem wantS_good {X : Cx} {s : Sd} {x : List UInt8} (h : (wantS X s x).2 < 0) : s.2 < 0 ∧ isM X.l s.1 x = true ∧ wantS X s x = (s.1 + 1, s.2) := wantM_good h
def Keeps (M : RT) : Prop := ∀ (f : Nat) (b : Int) (i : Nat) (r : Fo × Nat × Int), 0 ≤ b → M f b i = some r → r.2.2 = b

theorem lab_pure {X : Cx} {P : Prop} {M : RT} {kd f : Nat} {s : Sd} {r : Fo × Sd} (hM : Keeps M) (h1 : s.2 < 0 → P ∧ labR X.l kd M f s.2 s.1 = some r) (h2 : 0 ≤ s.2 → r.2.2 = s.2) :
    ∃ t : Fo × Sd, ((wantS X (wordS X s) sCol).2 < 0 → P ∧ M f (wantS X (wordS X s) sCol).2 (wantS X (wordS X s) sCol).1 = some t) ∧ (0 ≤ (wantS X (wordS X s) sCol).2 → t.2.2 = (wantS X (wordS X s) sCol).2) ∧
      (t.2.2 < 0 → r = (.one ⟨kd, pos X s, t.2.1, textAt X.l (wat X s), wat X s⟩ t.1, t.2)) ∧ (0 ≤ t.2.2 → r.2.2 = t.2.2) := by
  by_cases hs : 0 ≤ s.2
  · rw [wordS_bad hs, wantS_bad hs]
    exact ⟨(.nil, s), fun h => absurd h (by omega), fun _ => rfl, fun h => absurd h (by dsimp only; omega), fun _ => h2 hs⟩
  · obtain ⟨hP, h⟩ := h1 (by omega)
    unfold labR at h
    dsimp only at h
    obtain ⟨t, ht, h⟩ := Option.bind_eq_some_iff.1 h
    have e1 : wantM X.l (wordM X.l s.2 ⟨kd, s.1, 0, e0, 0⟩ s.1).2.2 (wordM X.l s.2 ⟨kd, s.1, 0, e0, 0⟩ s.1).2.1 sCol = wantS X (wordS X s) sCol := by
      unfold wantS wordS
      rw [wordM_snd s.2 ⟨kd, s.1, 0, e0, 0⟩ ⟨0, 0, 0, e0, 0⟩ s.1]
    rw [e1] at ht
    injection h with h
    refine ⟨t, fun _ => ⟨hP, ht⟩, fun hb => hM _ _ _ _ hb ht, fun hg => ?_, fun _ => by rw [← h]⟩
    have hy : (wantS X (wordS X s) sCol).2 < 0 := by
      by_cases hh : 0 ≤ (wantS X (wordS X s) sCol).2
      · have := hM _ _ _ _ hh ht; omega
      · omega
    obtain ⟨g1, g2, g3, g4⟩ := wordS_good (wantS_good hy).1
    rw [← h, g4, g2, pos_good g1]

set_option maxHeartbeats 2000000 in
theorem labelled_any (X : Cx) (kd F : Nat) (w : World) :
    Calls Tryz.prog 98 #[X.p, .int .i64 kd, .func (.func F) #[X.p] #[]] w fun e w' => e = .returned (.func (.func 121) #[] #[.pointer (some ⟨w.heap.size, 0, none⟩), .pointer (some ⟨w.heap.size + 1, 0, none⟩), .pointer (some ⟨w.heap.size + 2, 0, none⟩)]) ∧
      w' = ((w.alloc (.cells #[X.p] 98)).alloc (.cells #[.int .i64 kd] 3)).alloc (.cells #[.func (.func F) #[X.p] #[]] 103) := by
  go_enter Tryz.func98, Tryz.ntmps98
  go_wp2_with fail
  go_ret
  exact ⟨rfl, rfl⟩

/-- What labelled's closure holds. -/
def LabI (X : Cx) (kd F b0 : Nat) (w : World) : Prop := X.rb < b0 ∧ RowB w b0 98 #[X.p] ∧ RowB w (b0 + 1) 3 #[.int .i64 kd] ∧ RowB w (b0 + 2) 103 #[.func (.func F) #[X.p] #[]]
theorem LabI.keep {X : Cx} {kd F b0 : Nat} {w w' : World} (h : LabI X kd F b0 w) (hf : Fr X.rb w.heap.size w w') : LabI X kd F b0 w' :=
  ⟨h.1, hf.row h.2.1 h.2.1.lt (by have := h.1; omega), hf.row h.2.2.1 h.2.2.1.lt (by have := h.1; omega), hf.row h.2.2.2 h.2.2.2.lt (by have := h.1; omega)⟩
theorem LabI.new {X : Cx} {kd F : Nat} {w : World} (hrb : X.rb < w.heap.size) : LabI X kd F w.heap.size (((w.alloc (.cells #[X.p] 98)).alloc (.cells #[.int .i64 kd] 3)).alloc (.cells #[.func (.func F) #[X.p] #[]] 103)) := by
  refine ⟨hrb, ((RowB.new w 98 #[X.p]).alloc _).alloc _, ?_, ?_⟩
  · have := (RowB.new (w.alloc (.cells #[X.p] 98)) 3 #[.int .i64 kd]).alloc (.cells #[.func (.func F) #[X.p] #[]] 103)
    simpa using this
  · have := RowB.new ((w.alloc (.cells #[X.p] 98)).alloc (.cells #[.int .i64 kd] 3)) 103 #[.func (.func F) #[X.p] #[]]
    simpa using this

set_option maxHeartbeats 4000000 in
set_option maxRecDepth 100000 in
theorem lab_q (X : Cx) (P : Prop) (M : RT) (hM : Keeps M) (kd F b0 f : Nat) (eF : ∀ w, (callFunc F #[X.p]).run Tryz.prog w = .ok (.enter F #[X.p]) w) (IR : RuleQ X P (fun s => M f s.2 s.1) F) :
    ListR X P (labR X.l kd M) 121 #[.pointer (some ⟨b0, 0, none⟩), .pointer (some ⟨b0 + 1, 0, none⟩), .pointer (some ⟨b0 + 2, 0, none⟩)] (LabI X kd F b0) f := by
  intro s w r hi hr1 hr2 hS
  obtain ⟨t, ht1, ht2, hrt, hrb2⟩ := lab_pure hM hr1 hr2
  have L0 := Lib.hid ((LS.start hS).alloc w.heap.size rfl 71 zcc)
  have I0 := Lib.hid (hi.keep (L0.out.fr))
  have rr := hS.row.cell
  have hrb := hS.lt
  have hl := hS.len
  have hpl := hS.pos_lt
  have hwl := wat_lt hS
  have CW := Lib.hid (word_any X s _ L0.out.st)
  have C3 : Hid (∀ w', PSt X w' (wantS X (wordS X s) sCol) → Calls Tryz.prog F #[X.p] w' (NodeQ X w' t)) := fun w' h => IR _ w' t ht1 ht2 h
  have HRT := Lib.hid hrt
  have HRB := Lib.hid hrb2
  have z0 := I0.out.2.1.cell
  have hb0 := I0.out.2.1.lt
  have hb1 := I0.out.2.2.1.lt
  have hb2 := I0.out.2.2.2.lt
  have hi1 := hi.2.1.lt
  have HIW := Lib.hid hi
  clear hr1 hr2 ht1 ht2 hrt hrb2 hS IR hi
  generalize hwa : wat X s = q at *
  generalize hpa : pos X s = p at *
  clear hwa hpa
  go_enter Tryz.func121, Tryz.ntmps121
  go_wp2_with fail
  refine CW.out.mono ?_
  rintro e w1 ⟨rfl, hS1, hF1⟩
  have L1 := Lib.hid (L0.out.step hS1 hF1)
  have I1 := Lib.hid (I0.out.keep hF1)
  have z1 := I1.out.2.1.cell
  have CC := Lib.hid (want_any X _ ⟨#[58]⟩ w1 hS1 (by decide))
  clear hS1 hF1 CW z0 I0
  go_wp2_with fail
  refine CC.out.mono ?_
  rintro e w2 ⟨rfl, hS2, hF2⟩
  have L2 := Lib.hid (L1.out.step hS2 hF2)
  have I2 := Lib.hid (I1.out.keep hF2)
  have L2d : Hid (LS X w w2.drew (wantS X (wordS X s) sCol) _ _ _ _) := L2.out.other ((Below.refl _ _).drew)
  have I2d : Hid (LabI X kd F b0 w2.drew) := I2.out.keep (Fr.of ((Below.refl _ _).drew))
  clear hS2 hF2 CC z1 I1
  go_wp2_with fail
  have K0 : (∀ o, w2.drew.cell? ⟨b0, o, none⟩ = #[X.p][o]?) ∧ (∀ o, w2.drew.cell? ⟨b0 + 1, o, none⟩ = #[Value.int .i64 kd][o]?) ∧ (∀ o, w2.drew.cell? ⟨b0 + 2, o, none⟩ = #[Value.func (.func F) #[X.p] #[]][o]?) := ⟨I2d.out.2.1.cell, I2d.out.2.2.1.cell, I2d.out.2.2.2.cell⟩
  have KEEP := Lib.hid (fun w' (h : LabI X kd F b0 w') => (⟨h.2.1.cell, h.2.2.1.cell, h.2.2.2.cell⟩ : (∀ o, w'.cell? ⟨b0, o, none⟩ = #[X.p][o]?) ∧ (∀ o, w'.cell? ⟨b0 + 1, o, none⟩ = #[Value.int .i64 kd][o]?) ∧ (∀ o, w'.cell? ⟨b0 + 2, o, none⟩ = #[Value.func (.func F) #[X.p] #[]][o]?)))
  go_region_held3 (fun w' => (∀ o, w'.cell? ⟨b0, o, none⟩ = #[X.p][o]?) ∧ (∀ o, w'.cell? ⟨b0 + 1, o, none⟩ = #[Value.int .i64 kd][o]?) ∧ (∀ o, w'.cell? ⟨b0 + 2, o, none⟩ = #[Value.func (.func F) #[X.p] #[]][o]?))
    (first
      | (with_reducible exact KEEP.out _ I6.out)
      | (with_reducible exact KEEP.out _ I5.out)
      | (with_reducible exact KEEP.out _ I4.out)
      | (with_reducible exact KEEP.out _ I3.out)
      | (with_reducible exact K0))
    (first
      | (go_at_call 123; refine (named_any X t.2 kd p q (some ⟨w3.heap.size, 0, none⟩) 1 1 _ L4.out.st hwl).mono ?_; rintro e w5 ⟨rfl, hb5⟩; have L5 := Lib.hid (L4.out.other hb5); have I5 := Lib.hid (HIW.out.keep L5.out.fr); have L6 := Lib.hid (L5.out.put6 0 rfl rfl (.int .i64 kd) (.int .i64 p) (.int .i64 (pos X t.2)) (.string (textAt X.l q)) (.int .i64 q) (.slice (some ⟨w3.heap.size, 0, none⟩) 1 1)); have I6 := Lib.hid (HIW.out.keep L6.out.fr); have u1 := (L5.out.row 0 rfl).cell; have u2 := (L5.out.row 0 rfl).thaw)
      | (refine (C3.out _ L2d.out.st).mono ?_; rintro e w3 ⟨h3, k3, A3, c3, rfl, hK3, hS3, hF3, hN3⟩; obtain ⟨y1, y2, y3, y4, y5⟩ := h3; have L3 := Lib.hid (L2d.out.kid hS3 hF3 hK3); have I3 := Lib.hid (I2d.out.keep hF3); have L4 := Lib.hid (L3.out.slice w3.heap.size rfl (k := .one ⟨y1, y2, y3, y4, y5⟩ k3) (cs := ncc ⟨y1, y2, y3, y4, y5⟩ A3 k3.len c3) (FC.one (L3.out.kidP 0 rfl))); have I4 := Lib.hid (HIW.out.keep L4.out.fr))
      | fail)
  go_wp2
  refine bodyPost_ret ?_ rfl ⟨⟨kd, p, pos X t.2, textAt X.l q, q⟩, .one ⟨y1, y2, y3, y4, y5⟩ k3, some ⟨w3.heap.size, 0, none⟩, 1, rfl, (L6.out.kidP 0 rfl).new_ (fun g h => h.1), PSt.to L6.out.st (fun h => by rw [HRT.out h]) HRB.out, L6.out.fr, ?_⟩
  · simp [results, Tryz.results121, go_sem, u1]
    rfl
  · intro hh
    by_cases h : t.2.2 < 0
    · rw [HRT.out h, hN3 h, pos_good h]
    · rw [HRB.out (by omega)] at hh; exact absurd hh h
end Pg
end Go.Proofs.YtifkjngclkklfaaGreatDoor
/- Contracts: whether a type may be, by the program. -/
namespace Go.Proofs.YtifkjngclkklfaaGreatDoor
open Go.RowKit Go.Op
namespace Tm
theorem len0 {α : Type} (l : List α) : decide (l = []) = ((l.length : Int) == 0) := by
  cases l with
  | nil => rfl
  | cons a l =>
    have : (((a :: l).length : Int) == 0) = false := by rw [beq_eq_false_iff_ne]; simp only [List.length_cons]; omega
    rw [this]; simp
theorem own_plain {k : Int} (h : k = 0 ∨ k = 1 ∨ k = 2) (ns : List ByteArray) (n : Nat) : ownB k ns n = (((ns.length : Int) == 0) && ((n : Int) == 0)) := by
  unfold ownB
  rw [if_pos h, len0]
  congr 1
  rw [Bool.eq_iff_iff]; simp
theorem own_rec (ns : List ByteArray) (n : Nat) : ownB 3 ns n = (((ns.length : Int) == (n : Int)) && (ns.all nmB && riseB ns)) := by
  unfold ownB
  rw [if_neg (by omega), if_pos rfl]
  congr 1
  rw [Bool.eq_iff_iff]; simp; omega
theorem own_fn (ns : List ByteArray) (n : Nat) : ownB 4 ns n = (((ns.length : Int) == 0) && decide ((n : Int) > 0)) := by
  unfold ownB
  rw [if_neg (by omega), if_neg (by omega), if_pos rfl, len0]
  congr 1
  rw [Bool.eq_iff_iff]; simp
theorem own_else {k : Int} (h : ¬ (k = 0 ∨ k = 1 ∨ k = 2)) (h3 : k ≠ 3) (h4 : k ≠ 4) (ns : List ByteArray) (n : Nat) : ownB k ns n = false := by
  unfold ownB
  rw [if_neg h, if_neg h3, if_neg h4]

set_option maxHeartbeats 4000000 in
set_option maxRecDepth 100000 in
theorem own_any (w : World) (k : Int) (ns : List ByteArray) (P : Nat → Prop) (An : Option Addr) (cn : Nat) (A : Option Addr) (n c : Nat) (h : NV w P ns An cn) (hl : ns.length ≤ 1000001) :
    Calls Tryz.prog 40 #[.agg #[.int .i64 k, .slice An ns.length cn, .slice A n c]] w fun e w' => e = .returned (.bool (ownB k ns n)) ∧ Below w.heap.size w w' := by
  have B0 := Lib.hid (bel1 w (.cells (tarr k An ns.length cn A n c) 25))
  have R0 := Lib.hid (RowB.new w 25 (tarr k An ns.length cn A n c))
  have rc := R0.out.cell
  have C := Lib.hid (labels_any _ ns P An cn (h.below (bel1 w (.cells (tarr k An ns.length cn A n c) 25))) hl)
  clear h hl
  by_cases h0 : k = 0 ∨ k = 1 ∨ k = 2
  · rw [own_plain h0]
    generalize ns.length = m at *
    clear C
    rcases h0 with rfl | rfl | rfl
    all_goals
      cases hx : ((m : Int) == 0) <;> cases hy : ((n : Int) == 0) <;>
        (go_enter Tryz.func40, Tryz.ntmps40
         go_wp2_with fail
         (first | go_ret | go_ret2)
         exact ⟨rfl, B0.out⟩)
  · by_cases h3 : k = 3
    · subst h3
      rw [own_rec]
      generalize (ns.all nmB && riseB ns) = b at *
      generalize ns.length = m at *
      cases hx : ((m : Int) == (n : Int))
      · go_enter Tryz.func40, Tryz.ntmps40
        go_wp2_with fail
        (first | go_ret | go_ret2)
        exact ⟨rfl, B0.out⟩
      · go_enter Tryz.func40, Tryz.ntmps40
        go_wp2_with fail
        refine C.out.mono ?_
        rintro e w1 ⟨rfl, rfl⟩
        go_wp2_with fail
        (first | go_ret | go_ret2)
        exact ⟨rfl, B0.out⟩
    · by_cases h4 : k = 4
      · subst h4
        rw [own_fn]
        generalize ns.length = m at *
        clear C
        cases hx : ((m : Int) == 0) <;> by_cases hy : (n : Int) > 0 <;>
          (go_enter Tryz.func40, Tryz.ntmps40
           go_wp2_with fail
           (first | go_ret | go_ret2)
           exact ⟨by first | rfl | simp, B0.out⟩)
      · rw [own_else h0 h3 h4]
        have e0 : (k == 0) = false := by rw [beq_eq_false_iff_ne]; omega
        have e1 : (k == 1) = false := by rw [beq_eq_false_iff_ne]; omega
        have e2 : (k == 2) = false := by rw [beq_eq_false_iff_ne]; omega
        have e3 : (k == 3) = false := by rw [beq_eq_false_iff_ne]; omega
        have e4 : (k == 4) = false := by rw [beq_eq_false_iff_ne]; omega
        generalize ns.length = m at *
        clear C h0 h3 h4
        go_enter Tryz.func40, Tryz.ntmps40
        go_wp2_with fail
        (first | go_ret | go_ret2)
        exact ⟨rfl, B0.out⟩

set_option maxHeartbeats 4000000 in
set_option maxRecDepth 100000 in
theorem pright_step (ps : List Ty) (hl : ps.length ≤ 1000001)
    (IH : ∀ p ∈ ps, ∀ (w : World) (P : Nat → Prop) (An : Option Addr) (cn : Nat) (A : Option Addr) (c : Nat), TI w P p An cn A c → Calls Tryz.prog 14 #[tv p An cn A c] w fun e w' => e = .returned (.bool p.right) ∧ Below w.heap.size w w')
    (w : World) (P : Nat → Prop) (k : Int) (ns : List ByteArray) (hn : ns.length ≤ 1000001) (An : Option Addr) (cn : Nat) (A : Option Addr) (c : Nat) (hN : NV w P ns An cn) (h : TV w P ps A c) (r : Bool) (hr : r = (ownB k ns ps.length && ps.all Ty.right)) :
    Calls Tryz.prog 14 #[.agg #[.int .i64 k, .slice An ns.length cn, .slice A ps.length c]] w fun e w' => e = .returned (.bool r) ∧ Below w.heap.size w w' := by
  have R0 := Lib.hid (RowB.new w 25 (tarr k An ns.length cn A ps.length c))
  have B0 := Lib.hid (bel1 w (.cells (tarr k An ns.length cn A ps.length c) 25))
  have C1 := Lib.hid (own_any _ k ns P An cn A ps.length c (hN.below B0.out) hn)
  have HT := Lib.hid (h.below B0.out)
  have HI := Lib.hid IH
  have rc := R0.out.cell
  have HR := Lib.hid hr
  obtain ⟨b, hb⟩ : ∃ b, b = ownB k ns ps.length := ⟨_, rfl⟩
  rw [← hb] at C1
  have HR : Hid (r = (b && ps.all Ty.right)) := by unfold Hid; rw [HR.out, ← hb]
  clear h hN IH hr hb hn
  go_enter Tryz.func14, Tryz.ntmps14
  go_wp2_with fail
  refine C1.out.mono ?_
  rintro e w1 ⟨rfl, h1⟩
  have HB1 := Lib.hid (B0.out.trans (h1.mono B0.out.size))
  cases b
  · clear h1 C1 rc
    go_wp2_with fail
    (first | go_ret | go_ret2)
    exact ⟨by rw [HR.out]; rfl, HB1.out⟩
  · have C := Lib.hid (all_any w1 (.func (.func 14) #[] #[]) ps Ty.right P A c ⟨14, #[], rfl, fun _ _ => rfl, fun p hp w' P An cn A c _ hk => HI.out p hp w' P An cn A c hk⟩ (HT.out.below h1) hl)
    have R1 := R0.out.below h1 R0.out.lt
    have rd := R1.cell
    have HR : Hid (r = ps.all Ty.right) := by unfold Hid; rw [HR.out, Bool.true_and]
    generalize ps.all Ty.right = b2 at C HR
    clear h1 C1 rc R1
    go_wp2_with fail
    refine C.out.mono ?_
    rintro e w2 ⟨rfl, h2⟩
    have HB := Lib.hid h2
    clear h2 C rd
    go_wp2_with fail
    (first | go_ret | go_ret2)
    exact ⟨by rw [HR.out]; rfl, HB1.out.trans (HB.out.mono HB1.out.size)⟩
theorem pright_any : ∀ t : Ty, t.cnt ≤ 1000001 → ∀ (w : World) (P : Nat → Prop) (An : Option Addr) (cn : Nat) (A : Option Addr) (c : Nat), TI w P t An cn A c → Calls Tryz.prog 14 #[tv t An cn A c] w fun e w' => e = .returned (.bool t.right) ∧ Below w.heap.size w w' := by
  refine Ty.ind fun k ns ps ih hc w P An cn A c h => ?_
  rw [Ty.cnt] at hc
  exact pright_step ps (by have := cntL_len ps; omega) (fun p hp => ih p hp (by have := cnt_mem hp; omega)) w P k ns (by omega) An cn A c (TI_iff.1 h).1 (TI_iff.1 h).2 _ (by rw [Ty.right, rightL_all])
end Tm
end Go.Proofs.YtifkjngclkklfaaGreatDoor
/- Contracts: whether a type may be, by the document. -/
namespace Go.Proofs.YtifkjngclkklfaaGreatDoor
open Go.RowKit Go.Op
namespace Tm
/-- What is asked ahead of names. -/
def preB (k : Int) (m n : Nat) : Bool :=
  decide (k < 0 ∨ k > 4) || (decide (k ≤ 2) && (decide ((m : Int) > 0) || decide ((n : Int) > 0))) || ((k == 3) && ((m : Int) != (n : Int))) || ((k == 4) && (decide ((m : Int) > 0) || ((n : Int) == 0)))
theorem own_pre (k : Int) (ns : List ByteArray) (n : Nat) : ownB k ns n = (!(preB k ns.length n) && (ns.all nmB && riseB ns)) := by
  have hnil : ns.length = 0 → (ns.all nmB && riseB ns) = true := fun h => by
    rw [List.length_eq_zero_iff.1 h]; rfl
  by_cases h0 : k = 0 ∨ k = 1 ∨ k = 2
  · rw [own_plain h0]
    unfold preB
    rw [decide_eq_false (p := k < 0 ∨ k > 4) (by omega), decide_eq_true (p := k ≤ 2) (by omega), (by rw [beq_eq_false_iff_ne]; omega : (k == 3) = false), (by rw [beq_eq_false_iff_ne]; omega : (k == 4) = false)]
    by_cases hm : ns.length = 0
    · rw [hnil hm, hm]
      by_cases hn : n = 0
      · subst hn; rfl
      · have : ((n : Int) == 0) = false := by rw [beq_eq_false_iff_ne]; omega
        rw [this, decide_eq_true (p := (n : Int) > 0) (by omega)]; simp
    · have : ((ns.length : Int) == 0) = false := by rw [beq_eq_false_iff_ne]; omega
      rw [this, decide_eq_true (p := (ns.length : Int) > 0) (by omega)]; simp
  · by_cases h3 : k = 3
    · subst h3
      rw [own_rec]
      unfold preB
      rw [decide_eq_false (p := (3 : Int) < 0 ∨ (3 : Int) > 4) (by omega), decide_eq_false (p := (3 : Int) ≤ 2) (by omega), (by rfl : ((3 : Int) == 3) = true), (by rfl : ((3 : Int) == 4) = false)]
      simp only [Bool.false_and, Bool.false_or, Bool.true_and, Bool.or_false, bne, Bool.not_not]
    · by_cases h4 : k = 4
      · subst h4
        rw [own_fn]
        unfold preB
        rw [decide_eq_false (p := (4 : Int) < 0 ∨ (4 : Int) > 4) (by omega), decide_eq_false (p := (4 : Int) ≤ 2) (by omega), (by rfl : ((4 : Int) == 3) = false), (by rfl : ((4 : Int) == 4) = true)]
        by_cases hm : ns.length = 0
        · rw [hnil hm, hm]
          by_cases hn : n = 0
          · subst hn; rfl
          · have : ((n : Int) == 0) = false := by rw [beq_eq_false_iff_ne]; omega
            rw [this, decide_eq_true (p := (n : Int) > 0) (by omega)]; simp
        · have : ((ns.length : Int) == 0) = false := by rw [beq_eq_false_iff_ne]; omega
          rw [this, decide_eq_true (p := (ns.length : Int) > 0) (by omega)]; simp
      · rw [own_else h0 h3 h4]
        unfold preB
        rw [decide_eq_true (p := k < 0 ∨ k > 4) (by omega)]; simp
end Tm
end Go.Proofs.YtifkjngclkklfaaGreatDoor
