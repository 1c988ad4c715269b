/- Contracts: which functions go where, by the program. -/
import Derived.Test.YtifkjngclkklfaaGreatDoorMGl
import Derived.Test.YtifkjngclkklfaaGreatDoorMGh
import Derived.Test.YtifkjngclkklfaaGreatDoorMGf
import Derived.Test.YtifkjngclkklfaaGreatDoorMGj
import Derived.Test.YtifkjngclkklfaaGreatDoorMGm
import Derived.Deep.AppendLies
import Derived.Deep.RegionHeld3
namespace Go.Proofs.YtifkjngclkklfaaGreatDoor
open Go.RowKit Go.Op
namespace Tm
theorem flFn_split {f : Ty → Ty → Bool} : ∀ {l m : List Ty}, 0 < l.length → 0 < m.length → flFn f l m = (zipB f (initT m) (initT l) && f (lastT l) (lastT m))
  | [a], [b], _, _ => by simp [flFn, initT, zipB, lastT]
  | [a], b :: c :: m, _, _ => by simp [flFn, initT, zipB]
  | a :: c :: l, [b], _, _ => by simp [flFn, initT, zipB]
  | a :: c :: l, b :: d :: m, _, _ => by
    have ih := flFn_split (f := f) (l := c :: l) (m := d :: m) (by simp) (by simp)
    have e1 : initT (b :: d :: m) = b :: initT (d :: m) := by simp [initT]
    have e2 : initT (a :: c :: l) = a :: initT (c :: l) := by simp [initT]
    rw [flFn, if_neg (by simp), ih, e1, e2, zipB, lastT, lastT, Bool.and_assoc]
theorem initT_len (l : List Ty) : (initT l).length = l.length - 1 := by simp [initT]
/-- What is known of parts: Flows answers of them. -/
def FlowsIH (F : Nat) (xs ys : List Ty) : Prop :=
  ∀ x ∈ xs, ∀ y ∈ ys, ∀ (w : World) (P P' : Nat → Prop) (An : Option Addr) (cn : Nat) (A : Option Addr) (c : Nat) (Bn : Option Addr) (dn : Nat) (B : Option Addr) (d : Nat), TI w P x An cn A c → TI w P' y Bn dn B d →
    Calls Tryz.prog F #[tv x An cn A c, tv y Bn dn B d] w fun e w' => e = .returned (.bool (flows x y)) ∧ Below w.heap.size w w'

set_option maxHeartbeats 4000000 in
set_option maxRecDepth 100000 in
theorem pfnflows_any (w : World) (ka kb : Int) (An : Option Addr) (ma cn : Nat) (xs : List Ty) (P P' : Nat → Prop) (A : Option Addr) (c : Nat) (Bn : Option Addr) (mb dn : Nat) (ys : List Ty) (B : Option Addr) (d : Nat)
    (hA : TV w P xs A c) (hB : TV w P' ys B d) (a0 : 0 < xs.length) (b0 : 0 < ys.length) (la : xs.length ≤ 1000001) (lb : ys.length ≤ 1000001) (I1 : FlowsIH 32 xs ys) (I2 : FlowsIH 32 ys xs) (r : Bool) (hr : r = flFn flows xs ys) :
    Calls Tryz.prog 54 #[.agg #[.int .i64 ka, .slice An ma cn, .slice A xs.length c], .agg #[.int .i64 kb, .slice Bn mb dn, .slice B ys.length d]] w fun e w' => e = .returned (.bool r) ∧ Below w.heap.size w w' := by
  rw [flFn_split a0 b0] at hr
  have b1 : Below w.heap.size w (w.alloc (.cells (tarr ka An ma cn A xs.length c) 25)) := bel1 w _
  have b2 : Below (w.alloc (.cells (tarr ka An ma cn A xs.length c) 25)).heap.size (w.alloc (.cells (tarr ka An ma cn A xs.length c) 25)) _ := bel1 _ (.cells (tarr kb Bn mb dn B ys.length d) 25)
  have HB0 := Lib.hid (b1.trans (b2.mono b1.size))
  have R1 := Lib.hid ((RowB.new w 25 (tarr ka An ma cn A xs.length c)).alloc (.cells (tarr kb Bn mb dn B ys.length d) 25))
  have R2 : Hid (RowB ((w.alloc (.cells (tarr ka An ma cn A xs.length c) 25)).alloc (.cells (tarr kb Bn mb dn B ys.length d) 25)) (w.heap.size + 1) 25 (tarr kb Bn mb dn B ys.length d)) := by
    have := RowB.new (w.alloc (.cells (tarr ka An ma cn A xs.length c) 25)) 25 (tarr kb Bn mb dn B ys.length d)
    unfold Hid
    simpa using this
  have HTA := Lib.hid ((hA.below b1).below b2)
  have HTB := Lib.hid ((hB.below b1).below b2)
  have C1 := Lib.hid (split_any _ ka An ma cn xs P A c HTA.out a0 la)
  have hml : Hid (lastT xs ∈ xs ∧ lastT ys ∈ ys) := ⟨lastT_mem a0, lastT_mem b0⟩
  obtain ⟨ta, hta⟩ : ∃ t, t = lastT xs := ⟨_, rfl⟩
  obtain ⟨tb, htb⟩ : ∃ t, t = lastT ys := ⟨_, rfl⟩
  rw [← hta] at C1 hml hr
  rw [← htb] at hml hr
  have HTBE := Lib.hid htb
  clear hta htb
  have r1 := R1.out.cell
  have r2 := R2.out.cell
  have HR := Lib.hid hr
  have H1 := Lib.hid I1
  have H2 := Lib.hid I2
  have HB00 : Hid (0 < ys.length ∧ ys.length ≤ 1000001 ∧ xs.length ≤ 1000001) := ⟨b0, lb, la⟩
  have hia := Lib.hid (initT_len xs)
  have hib := Lib.hid (initT_len ys)
  clear b1 b2 hA hB hr I1 I2 a0 b0 la lb
  go_enter Tryz.func54, Tryz.ntmps54
  go_wp2_with fail
  refine C1.out.mono ?_
  rintro e w1 ⟨h1, An2, cn2, A2, c2, rfl, ht1⟩
  have HB1 := Lib.hid (HB0.out.trans (h1.mono HB0.out.size))
  have R3 := Lib.hid (R2.out.below h1 R2.out.lt)
  have r3 := R3.out.cell
  have HTA1 := Lib.hid (HTA.out.below h1)
  have HTB1 := Lib.hid (HTB.out.below h1)
  have HT1 := Lib.hid ht1
  clear h1 C1 r1 r2 R1 R2 HTA HTB HB0 ht1
  obtain ⟨k1, n1, p1⟩ := ta
  have q1 := bel1 w1 (.cells #[.int .i64 k1, .slice An2 n1.length cn2, .slice A2 p1.length c2] 25)
  have HB2 := Lib.hid (HB1.out.trans (q1.mono HB1.out.size))
  have C2 := Lib.hid (split_any _ kb Bn mb dn ys P' B d (HTB1.out.below q1) HB00.out.1 HB00.out.2.1)
  rw [← HTBE.out] at C2
  have R4 := Lib.hid (R3.out.alloc (.cells #[.int .i64 k1, .slice An2 n1.length cn2, .slice A2 p1.length c2] 25))
  have r4 := R4.out.cell
  have R5 := Lib.hid (RowB.new w1 25 #[.int .i64 k1, .slice An2 n1.length cn2, .slice A2 p1.length c2])
  have HTA2 := Lib.hid (HTA1.out.below q1)
  have HTB2 := Lib.hid (HTB1.out.below q1)
  have HT2 := Lib.hid (HT1.out.below q1)
  clear q1 HB1 R3 HTA1 HTB1 HT1
  go_wp2_with fail
  refine C2.out.mono ?_
  rintro e w2 ⟨h2, Bn2, dn2, B2, d2, rfl, ht2⟩
  have HB3 := Lib.hid (HB2.out.trans (h2.mono HB2.out.size))
  have R6 := Lib.hid (R5.out.below h2 R5.out.lt)
  obtain ⟨k2, n2, p2⟩ := tb
  have q2 := bel1 w2 (.cells #[.int .i64 k2, .slice Bn2 n2.length dn2, .slice B2 p2.length d2] 25)
  have HB4 := Lib.hid (HB3.out.trans (q2.mono HB3.out.size))
  have R7 := Lib.hid (R6.out.alloc (.cells #[.int .i64 k2, .slice Bn2 n2.length dn2, .slice B2 p2.length d2] 25))
  have R8 := Lib.hid (RowB.new w2 25 #[.int .i64 k2, .slice Bn2 n2.length dn2, .slice B2 p2.length d2])
  have HTA3 := Lib.hid ((HTA2.out.below h2).below q2)
  have HTB3 := Lib.hid ((HTB2.out.below h2).below q2)
  have HTx := Lib.hid ((HT2.out.below h2).below q2)
  have HTy := Lib.hid (ht2.below q2)
  have C3 := equalf_any _ (.func (.func 32) #[] #[]) (initT ys) (initT xs) flows P' P B A d c ⟨32, #[], rfl, fun _ _ _ => rfl, fun x hx y hy w' P P' An cn A c Bn dn B d _ u u' => H2.out x (initT_mem hx) y (initT_mem hy) w' P P' An cn A c Bn dn B d u u'⟩ (HTB3.out.take _) (HTA3.out.take _) (by rw [hib.out]; have := HB00.out.2.1; omega) (by rw [hia.out]; have := HB00.out.2.2; omega)
  rw [hib.out, hia.out] at C3
  have C3 := Lib.hid C3
  have r7 := R7.out.cell
  have r8 := R8.out.cell
  obtain ⟨z, hz⟩ : ∃ z, z = zipB flows (initT ys) (initT xs) := ⟨_, rfl⟩
  rw [← hz] at C3 HR
  clear C2 h2 q2 ht2 R4 r4 R5 HTA2 HTB2 HT2 HB2 HB3 R6 hz
  go_wp2_with fail
  refine C3.out.mono ?_
  rintro e w3 ⟨rfl, h3⟩
  have HB5 := Lib.hid (HB4.out.trans (h3.mono HB4.out.size))
  cases z
  · clear h3 C3 r7 r8
    go_wp2_with fail
    (first | go_ret | go_ret2)
    exact ⟨by rw [HR.out]; rfl, HB5.out⟩
  · have R9 := Lib.hid (R7.out.below h3 R7.out.lt)
    have R10 := Lib.hid (R8.out.below h3 R8.out.lt)
    have r9 := R9.out.cell
    have r10 := R10.out.cell
    have C4 := Lib.hid (H1.out _ hml.out.1 _ hml.out.2 w3 P P' An2 cn2 A2 c2 Bn2 dn2 B2 d2 (HTx.out.below h3) (HTy.out.below h3))
    have HR2 : Hid (r = flows (.mk k1 n1 p1) (.mk k2 n2 p2)) := by unfold Hid; rw [HR.out, Bool.true_and]
    generalize flows (.mk k1 n1 p1) (.mk k2 n2 p2) = y at C4 HR2
    try simp only [kind_mk, names_mk, parts_mk] at C4
    clear h3 C3 r7 r8 R7 R8 HR
    go_wp2_with fail
    refine C4.out.mono ?_
    rintro e w4 ⟨rfl, h4⟩
    have HB6 := Lib.hid (HB5.out.trans (h4.mono HB5.out.size))
    clear h4 C4 r9 r10
    go_wp2_with fail
    (first | go_ret | go_ret2)
    exact ⟨by rw [HR2.out]; rfl, HB6.out⟩
end Tm
end Go.Proofs.YtifkjngclkklfaaGreatDoor
/- What a tree tells, by the document; rows of labels and parts that grow, the parts in memory just made. -/
namespace Go.Proofs.YtifkjngclkklfaaGreatDoor
open Go.RowKit
namespace Tm
open Ps Pg
/-- The record of labels and parts. -/
noncomputable def mkRec (ns : List ByteArray) (ps : List Ty) : Ty := by
  classical
  exact if h : ∃ t, IsRec ns ps t then h.choose else dyn
theorem mkRec_eq {ns : List ByteArray} {ps : List Ty} {t : Ty} (h : IsRec ns ps t) : mkRec ns ps = t := by
  have hx : ∃ t, IsRec ns ps t := ⟨t, h⟩
  have e : mkRec ns ps = hx.choose := by
    unfold mkRec
    exact dif_pos hx
  rw [e]
  exact hx.choose_spec.uniq h
theorem isRec_self {ns : List ByteArray} {ps : List Ty} (h : riseB ns = true) (hl : ns.length = ps.length) : IsRec ns ps (.mk 3 ns ps) := ⟨rfl, h, hl, fun _ _ => Iff.rfl⟩
noncomputable def recEnd (r : Int × List ByteArray × List Ty) : Int × Ty := if r.1 ≠ 0 then (r.1, dyn) else if r.2.1.Nodup then (0, mkRec r.2.1 r.2.2) else (40, dyn)
noncomputable def node (h : Hd) (n : Nat) (R : Int × List ByteArray × List Ty) (F : Int × List Ty) : Int × Ty :=
  if h.kind = 0 ∨ h.kind = 31 then (0, dyn) else if h.kind = 29 then (0, .mk 1 [] []) else if h.kind = 30 then (0, .mk 2 [] []) else if h.kind = 32 then recEnd R
  else if h.kind = 34 then (if n = 0 then (8, dyn) else if F.1 ≠ 0 then (F.1, dyn) else (0, .mk 4 [] F.2)) else (8, dyn)
def recStep (h : Hd) (n : Nat) (K : Int × Ty) (R : Int × List ByteArray × List Ty) : Int × List ByteArray × List Ty :=
  if h.kind = 33 ∧ n = 1 then (if K.1 ≠ 0 then (K.1, [], []) else (R.1, h.word :: R.2.1, K.2 :: R.2.2)) else (8, [], [])
def fnStep (a : Int × Ty) (F : Int × List Ty) : Int × List Ty := if a.1 ≠ 0 then (a.1, []) else (F.1, a.2 :: F.2)
/-- What the first node tells; what all nodes are as a record's parts; what they are as a function's. -/
noncomputable def tri : Fo → (Int × Ty) × (Int × List ByteArray × List Ty) × (Int × List Ty)
  | .nil => ((8, dyn), (0, [], []), (0, []))
  | .cons h k r => (node h k.len (tri k).2.1 (tri k).2.2, recStep h k.len (tri k).1 (tri r).2.1, fnStep (node h k.len (tri k).2.1 (tri k).2.2) (tri r).2.2)
/-- What has been laid, and what is left. -/
def fin (nl : List ByteArray) (tl : List Ty) (r : Int × List ByteArray × List Ty) : Int × List ByteArray × List Ty := (r.1, nl ++ r.2.1, tl ++ r.2.2)
theorem recEnd_bad {c : Int} (h : c ≠ 0) (a : List ByteArray) (b : List Ty) : recEnd (c, a, b) = (c, dyn) := by unfold recEnd; rw [if_pos h]
theorem fin_bad1 {h : Hd} {kk r : Fo} {nl : List ByteArray} {tl : List Ty} (hk : ¬ (h.kind = 33 ∧ kk.len = 1)) : recEnd (fin nl tl (tri (.cons h kk r)).2.1) = (8, dyn) := by
  simp only [tri, recStep, if_neg hk, fin]
  exact recEnd_bad (by omega) _ _
theorem fin_bad2 {h : Hd} {kk r : Fo} {nl : List ByteArray} {tl : List Ty} (hk : h.kind = 33 ∧ kk.len = 1) (hc : (tri kk).1.1 ≠ 0) : recEnd (fin nl tl (tri (.cons h kk r)).2.1) = ((tri kk).1.1, dyn) := by
  simp only [tri, recStep, if_pos hk, if_pos hc, fin]
  exact recEnd_bad hc _ _
theorem fin_next {h : Hd} {kk r : Fo} {nl : List ByteArray} {tl : List Ty} (hk : h.kind = 33 ∧ kk.len = 1) (hc : (tri kk).1.1 = 0) : fin nl tl (tri (.cons h kk r)).2.1 = fin (nl ++ [h.word]) (tl ++ [(tri kk).1.2]) (tri r).2.1 := by
  simp [tri, recStep, if_pos hk, hc, fin]
/-- What told answers. -/
def ToldQ (r : Int × Ty) (w : World) (e : Ending) (w' : World) : Prop :=
  ∃ An cn A c, e = .returned (.tuple #[tv r.2 An cn A c, .int .i64 r.1]) ∧ TI w' (fun g => w.heap.size ≤ g) r.2 An cn A c ∧ Below w.heap.size w w'
theorem ToldQ.none {w w' : World} {z : Int} (hb : Below w.heap.size w w') : ToldQ (z, dyn) w (.returned (.tuple #[tz, .int .i64 z])) w' :=
  ⟨Option.none, 0, Option.none, 0, rfl, TI_iff.2 ⟨NV.nil _ _ _ _, TV.nil _ _ _ _⟩, hb⟩
/-- Labels and parts as far as they have been laid; B: what is below it stays. -/
def fr2 (B : Nat) (v1 v2 : Value) (g : Nat) : Prop := B ≤ g ∧ v1.ownBlock ≠ some g ∧ v2.ownBlock ≠ some g
structure RT (w wa : World) (v1 v2 : Value) (nl : List ByteArray) (tl : List Ty) (cs : List Value) : Prop where
  o1 : wa.ownsRow w.heap.size 9 1 v1 nl.length (nl.map Value.string)
  o2 : wa.ownsRow w.heap.size 25 3 v2 tl.length cs
  tl : TL wa (fr2 w.heap.size v1 v2) tl cs
  be : Below w.heap.size w wa
theorem RT.start (w wa : World) (h : Below w.heap.size w wa) : RT w wa (.slice none 0 0) (.slice none 0 0) [] [] [] :=
  ⟨World.ownsRow_nil _ _ 9 1, World.ownsRow_nil _ _ 25 3, by rw [TL], h⟩
theorem own_bel2 {w w' : World} {base e s n : Nat} {v : Value} {xs : List Value} (h : w.ownsRow base e s v n xs) (hb : Below w.heap.size w w') : w'.ownsRow base e s v n xs := by
  have hlt := h.lt
  refine ⟨h.1, ?_⟩
  rcases h.2 with ⟨hv, hn⟩ | ⟨g, cap, cur, rfl, h1, h2, h3⟩
  · exact .inl ⟨hv, hn⟩
  · exact .inr ⟨g, cap, cur, rfl, h1, (hb.block g (hlt g rfl).2).trans h2, h3⟩
theorem RT.below {w wa wb : World} {v1 v2 : Value} {nl : List ByteArray} {tl : List Ty} {cs : List Value} (h : RT w wa v1 v2 nl tl cs) (hb : Below wa.heap.size wa wb) : RT w wb v1 v2 nl tl cs :=
  ⟨own_bel2 h.o1 hb, own_bel2 h.o2 hb, h.tl.below hb, h.be.trans (hb.mono h.be.size)⟩
/-- And a part that will be laid next. -/
structure RP (w wa : World) (v1 v2 : Value) (nl : List ByteArray) (tl : List Ty) (cs : List Value) (t : Ty) (An : Option Addr) (cn : Nat) (A : Option Addr) (c : Nat) : Prop where
  rt : RT w wa v1 v2 nl tl cs
  ti : TI wa (fr2 w.heap.size v1 v2) t An cn A c
section
variable {w wa wb : World} {v1 v2 v1' v2' : Value} {nl : List ByteArray} {tl : List Ty} {cs : List Value} {t : Ty} {An : Option Addr} {cn : Nat} {A : Option Addr} {c : Nat}
theorem RT.pend (h : RT w wa v1 v2 nl tl cs) (hb : Below wa.heap.size wa wb) (ht : TI wb (fun g => wa.heap.size ≤ g) t An cn A c) : RP w wb v1 v2 nl tl cs t An cn A c := by
  refine ⟨h.below hb, ht.mono fun g hg => ⟨by have := h.be.size; omega, fun e => ?_, fun e => ?_⟩⟩
  · have := (h.o1.lt g e).2; omega
  · have := (h.o2.lt g e).2; omega
theorem RP.below (h : RP w wa v1 v2 nl tl cs t An cn A c) (hb : Below wa.heap.size wa wb) : RP w wb v1 v2 nl tl cs t An cn A c := ⟨h.rt.below hb, h.ti.below hb⟩
theorem RP.drewx (h : RP w wa v1 v2 nl tl cs t An cn A c) : RP w wa.drew v1 v2 nl tl cs t An cn A c := h.below (Below.drew (Below.refl _ _))
theorem RP.app1 (h : RP w wa v1 v2 nl tl cs t An cn A c) {s : ByteArray} {g1 : Nat} (hown : wb.ownsRow w.heap.size 9 1 v1' (nl.length + 1) (nl.map Value.string ++ [.string s])) (hg : wa.grownBy wb v1.ownBlock)
    (hv : v1'.ownBlock = some g1) (hat : v1.ownBlock = some g1 ∨ g1 = wa.heap.size) : RP w wb v1' v2 (nl ++ [s]) tl cs t An cn A c := by
  have key : ∀ g, fr2 w.heap.size v1 v2 g → g < wa.heap.size → wb.heap[g]? = wa.heap[g]? ∧ fr2 w.heap.size v1' v2 g := fun g hp hl => by
    refine ⟨hg.block g hl fun e => hp.2.1 e.symm, hp.1, fun e => ?_, hp.2.2⟩
    rw [hv] at e
    injection e with e
    subst e
    rcases hat with h | h
    · exact hp.2.1 h
    · omega
  refine ⟨⟨by simpa using hown, own_keep h.rt.o2 hg (own_apart h.rt.o2 h.rt.o1 (by omega)), TL.keep hg.size key _ _ h.rt.tl, h.rt.be.grown hg h.rt.be.size fun k hk => (h.rt.o1.lt k hk).1⟩, h.ti.keep hg.size key⟩
theorem RP.app2 (h : RP w wa v1 v2 nl tl cs t An cn A c) {g1 : Nat} (hown : wb.ownsRow w.heap.size 25 3 v2' (tl.length + 1) (cs ++ tcs t An cn A c)) (hg : wa.grownBy wb v2.ownBlock)
    (hv : v2'.ownBlock = some g1) (hat : v2.ownBlock = some g1 ∨ g1 = wa.heap.size) : RT w wb v1 v2' nl (tl ++ [t]) (cs ++ tcs t An cn A c) := by
  have key : ∀ g, fr2 w.heap.size v1 v2 g → g < wa.heap.size → wb.heap[g]? = wa.heap[g]? ∧ fr2 w.heap.size v1 v2' g := fun g hp hl => by
    refine ⟨hg.block g hl fun e => hp.2.2 e.symm, hp.1, hp.2.1, fun e => ?_⟩
    rw [hv] at e
    injection e with e
    subst e
    rcases hat with h | h
    · exact hp.2.2 h
    · omega
  exact ⟨own_keep h.rt.o1 hg (own_apart h.rt.o1 h.rt.o2 (by omega)), by simpa using hown, TL.app _ _ (TL.keep hg.size key _ _ h.rt.tl) (TL.one (h.ti.keep hg.size key)), h.rt.be.grown hg h.rt.be.size fun k hk => (h.rt.o2.lt k hk).1⟩
/-- What has been laid, as two slices. -/
theorem RT.out (h : RT w wa v1 v2 nl tl cs) (hz : ∀ s ∈ nl, s.size ≤ 140737488351232) : ∃ An cn A c, v1 = .slice An nl.length cn ∧ v2 = .slice A tl.length c ∧ NV wa (fun g => w.heap.size ≤ g) nl An cn ∧ TV wa (fun g => w.heap.size ≤ g) tl A c := by
  obtain ⟨An, cn, e1, c1⟩ := own_shape h.o1
  obtain ⟨A, c, e2, c2⟩ := own_shape h.o2
  have o1 := h.o1
  have o2 := h.o2
  rw [e1] at o1
  rw [e2] at o2
  exact ⟨An, cn, A, c, e1, e2, NV.of_own o1 rfl hz (fun g hg _ => hg) c1, TV.of_own o2 rfl h.tl (fun g hg => hg.1) (fun g hg _ => hg) c2⟩
end
end Tm
end Go.Proofs.YtifkjngclkklfaaGreatDoor
/- Regions that draw their order: what holds of the world may hang on which operations have come up. -/
namespace Go.Proofs.YtifkjngclkklfaaGreatDoor
open Go.RowKit Go.Op
namespace Tm
section
variable {P : Program} {ops : Array Oper} {Q : Exit → Act → World → Prop} {md : Region.Mode} {S : Array Bool → World → Prop}
/-- Whatever order is picked from here on, and S holds behind every operation, of what has come up then. -/
def wpG (P : Program) (md : Region.Mode) (ops : Array Oper) (Q : Exit → Act → World → Prop) (S : Array Bool → World → Prop) : Nat → Array Bool → Act → World → Prop
  | 0, listed, a, w => Region.ready md ops listed = [] ∧ Q .normal a w
  | fuel + 1, listed, a, w =>
    (Region.ready md ops listed = [] → Q .normal a w) ∧
    ∀ i ∈ Region.ready md ops listed, wpOp P ops Q i (fun a' w' => S (listed.setIfInBounds i true) w' ∧ wpG P md ops Q S fuel (listed.setIfInBounds i true) a' w') a w
theorem wpG_any : ∀ (fuel : Nat) (listed : Array Bool) (a : Act) (w : World), wpG P md ops Q S fuel listed a w → wpAny P md ops Q fuel listed a w
  | 0, _, _, _, h => h
  | fuel + 1, _, _, _, h => ⟨h.1, fun i hi => wpOp_mono (fun a' w' h' => wpG_any fuel _ a' w' h'.2) (h.2 i hi)⟩
/-- An operation that may come up may be taken first, if it yields its value in every world that meets S at any list at which it has not come up yet. -/
theorem wpG_first {i : Nat} {oi : Oper} {v : Value} {G : Array Bool → Prop} (hi : ops[i]? = some oi) (hsel : ∀ (j : Nat) (o : Oper) cs b, ops[j]? = some o → o.op ≠ .select cs b)
    (hQ : ∀ c a w, Q (.panic c) (a.put oi.dst v) w → Q (.panic c) a w) (hmono : ∀ l w, S (l.setIfInBounds i true) w → S l w)
    (hG : ∀ l j, G l → i ∈ Region.ready md ops l → j ∈ Region.ready md ops l → j ≠ i → G (l.setIfInBounds j true)) :
    ∀ (fuel : Nat) (listed : Array Bool) (a : Act) (w : World),
      (∀ j oj, ops[j]? = some oj → j ≠ i → listed.getD j true = false → (∀ e ∈ oj.after, Region.binds md e = true → e.on ≠ i) → oi.apart ops oj = true) →
      i ∈ Region.ready md ops listed → YieldsIf P ops (fun w => ∃ l, G l ∧ S l w) oi v a → G listed → S listed w → S (listed.setIfInBounds i true) w →
      wpG P md ops Q S fuel (listed.setIfInBounds i true) (a.put oi.dst v) w → wpG P md ops Q S (fuel + 1) listed a w := by
  intro fuel
  induction fuel with
  | zero =>
    intro listed a w _ hr hy hg hS hS' H
    refine ⟨fun h => (by rw [h] at hr; cases hr), fun j hj => ?_⟩
    by_cases hji : j = i
    · subst hji; exact hy.wpOp hi ⟨_, hg, hS⟩ ⟨hS', H⟩
    · have := ready_mono hj hji
      rw [H.1] at this
      cases this
  | succ fuel ih =>
    intro listed a w hfree hr hy hg hS hS' H
    refine ⟨fun h => (by rw [h] at hr; cases hr), fun j hj => ?_⟩
    by_cases hji : j = i
    · subst hji; exact hy.wpOp hi ⟨_, hg, hS⟩ ⟨hS', H⟩
    · have h1 := H.2 j (ready_mono hj hji)
      obtain ⟨hjun, oj, hoj, hall⟩ := mem_ready.1 hj
      have hnot : ∀ e ∈ oj.after, Region.binds md e = true → e.on ≠ i := fun e he hb heq => by
        have h1 := hall e he hb
        have h0 := (mem_ready.1 hr).1
        rw [heq] at h1
        rcases Nat.lt_or_ge i listed.size with h' | h'
        · simp [h'] at h0 h1; rw [h0] at h1; cases h1
        · simp [Array.getElem?_eq_none h'] at h1
      have h2 := wpOp_putIf hoj (hfree j oj hoj hji hjun hnot) (fun cs b => hsel i oi cs b hi) (fun cs b => hsel j oj cs b hoj) hQ hy h1
      have hfree' : ∀ k ok, ops[k]? = some ok → k ≠ i → (listed.setIfInBounds j true).getD k true = false →
          (∀ e ∈ ok.after, Region.binds md e = true → e.on ≠ i) → oi.apart ops ok = true := fun k ok hk hki hun hno => by
        refine hfree k ok hk hki ?_ hno
        by_cases hjk : j = k
        · subst hjk; exact hjun
        · rw [getD_set_ne true hjk] at hun; exact hun
      refine wpOp_mono (fun a' w' h3 => ?_) h2
      have hs := h3.2.1
      rw [Array.setIfInBounds_comm _ _ (Ne.symm hji)] at hs
      have hs2 := hmono _ _ hs
      refine ⟨hs2, ih (listed.setIfInBounds j true) a' w' hfree' (ready_mono hr (Ne.symm hji)) h3.1 (hG _ _ hg hr hj hji) hs2 hs ?_⟩
      rw [Array.setIfInBounds_comm _ _ hji]
      exact h3.2.2
/-- What is said of the world, and two parts of it for as long as an operation each has not come up. -/
def SG (S0 : World → Prop) (m1 : Nat) (A1 : World → Prop) (m2 : Nat) (A2 : World → Prop) (l : Array Bool) (w : World) : Prop := S0 w ∧ (l.getD m1 true = false → A1 w) ∧ (l.getD m2 true = false → A2 w)
variable {S0 A1 A2 : World → Prop} {m1 m2 : Nat}
theorem SG.mono {i : Nat} (h1 : i ≠ m1) (h2 : i ≠ m2) (l : Array Bool) (w : World) (h : SG S0 m1 A1 m2 A2 (l.setIfInBounds i true) w) : SG S0 m1 A1 m2 A2 l w := by
  unfold SG at *
  rw [getD_set_ne true h1, getD_set_ne true h2] at h
  exact h
theorem SG.set {i : Nat} {l : Array Bool} {w : World} (h1 : i ≠ m1) (h2 : i ≠ m2) (h : SG S0 m1 A1 m2 A2 l w) : SG S0 m1 A1 m2 A2 (l.setIfInBounds i true) w := by
  unfold SG at *
  rw [getD_set_ne true h1, getD_set_ne true h2]
  exact h
theorem wpG_take0 {i : Nat} {oi : Oper} {v : Value} {fuel : Nat} {listed : Array Bool} {a : Act} {w : World} (hi : ops.toList[i]? = some oi)
    (hs : Region.noSelect ops = true) (hf : Region.free md ops listed i = true) (hr : (Region.ready md ops listed).contains i = true) (h1 : i ≠ m1) (h2 : i ≠ m2)
    (hQ : ∀ c a w, Q (.panic c) (a.put oi.dst v) w → Q (.panic c) a w) (hS : SG S0 m1 A1 m2 A2 listed w) (hy : YieldsIf P ops S0 oi v a)
    (h : wpG P md ops Q (SG S0 m1 A1 m2 A2) fuel (listed.setIfInBounds i true) (a.put oi.dst v) w) : wpG P md ops Q (SG S0 m1 A1 m2 A2) (fuel + 1) listed a w := by
  have hi' : ops[i]? = some oi := by rw [← Array.getElem?_toList]; exact hi
  exact wpG_first (G := fun _ => True) hi' (Region.noSelect_spec hs) hQ (SG.mono h1 h2) (fun _ _ _ _ _ _ => trivial) fuel listed a w (Region.free_spec hi' hf) (by simpa using hr)
    (hy.imp (fun h => ⟨h.1, fun w ⟨_, _, hw⟩ => h.2 w hw.1⟩) id) trivial hS (hS.set h1 h2) h
/-- Does operation m wait for i? -/
def waits (md : Region.Mode) (ops : Array Oper) (m i : Nat) : Bool := match ops[m]? with
  | some o => o.after.any fun e => Region.binds md e && e.on == i
  | none => false
theorem waits_stays {m i j : Nat} (hw : waits md ops m i = true) {l : Array Bool} (hi : i ∈ Region.ready md ops l) (hj : j ∈ Region.ready md ops l) : j ≠ m := by
  rintro rfl
  obtain ⟨_, o, ho, hall⟩ := mem_ready.1 hj
  unfold waits at hw
  rw [ho] at hw
  simp only [Array.any_eq_true] at hw
  obtain ⟨k, hk, he⟩ := hw
  rw [Bool.and_eq_true, beq_iff_eq] at he
  have h1 := hall _ (Array.getElem_mem hk) he.1
  rw [he.2] at h1
  have h0 := (mem_ready.1 hi).1
  rcases Nat.lt_or_ge i l.size with h' | h'
  · simp [h'] at h0 h1; rw [h0] at h1; cases h1
  · simp [Array.getElem?_eq_none h'] at h1
theorem wpG_take1 {i : Nat} {oi : Oper} {v : Value} {fuel : Nat} {listed : Array Bool} {a : Act} {w : World} (hi : ops.toList[i]? = some oi)
    (hs : Region.noSelect ops = true) (hf : Region.free md ops listed i = true) (hr : (Region.ready md ops listed).contains i = true) (h1 : i ≠ m1) (h2 : i ≠ m2) (hw : waits md ops m1 i = true) (hu : listed.getD m1 true = false)
    (hQ : ∀ c a w, Q (.panic c) (a.put oi.dst v) w → Q (.panic c) a w) (hS : SG S0 m1 A1 m2 A2 listed w) (hy : YieldsIf P ops (fun w => S0 w ∧ A1 w) oi v a)
    (h : wpG P md ops Q (SG S0 m1 A1 m2 A2) fuel (listed.setIfInBounds i true) (a.put oi.dst v) w) : wpG P md ops Q (SG S0 m1 A1 m2 A2) (fuel + 1) listed a w := by
  have hi' : ops[i]? = some oi := by rw [← Array.getElem?_toList]; exact hi
  refine wpG_first (G := fun l => l.getD m1 true = false) hi' (Region.noSelect_spec hs) hQ (SG.mono h1 h2) (fun l j hg hir hjr _ => ?_) fuel listed a w (Region.free_spec hi' hf) (by simpa using hr)
    (hy.imp (fun h => ⟨h.1, fun w ⟨_, hg, hw⟩ => h.2 w ⟨hw.1, hw.2.1 hg⟩⟩) id) hu hS (hS.set h1 h2) h
  rw [getD_set_ne true (waits_stays hw hir hjr)]
  exact hg
theorem wpG_take2 {i : Nat} {oi : Oper} {v : Value} {fuel : Nat} {listed : Array Bool} {a : Act} {w : World} (hi : ops.toList[i]? = some oi)
    (hs : Region.noSelect ops = true) (hf : Region.free md ops listed i = true) (hr : (Region.ready md ops listed).contains i = true) (h1 : i ≠ m1) (h2 : i ≠ m2) (hw : waits md ops m2 i = true) (hu : listed.getD m2 true = false)
    (hQ : ∀ c a w, Q (.panic c) (a.put oi.dst v) w → Q (.panic c) a w) (hS : SG S0 m1 A1 m2 A2 listed w) (hy : YieldsIf P ops (fun w => S0 w ∧ A2 w) oi v a)
    (h : wpG P md ops Q (SG S0 m1 A1 m2 A2) fuel (listed.setIfInBounds i true) (a.put oi.dst v) w) : wpG P md ops Q (SG S0 m1 A1 m2 A2) (fuel + 1) listed a w := by
  have hi' : ops[i]? = some oi := by rw [← Array.getElem?_toList]; exact hi
  refine wpG_first (G := fun l => l.getD m2 true = false) hi' (Region.noSelect_spec hs) hQ (SG.mono h1 h2) (fun l j hg hir hjr _ => ?_) fuel listed a w (Region.free_spec hi' hf) (by simpa using hr)
    (hy.imp (fun h => ⟨h.1, fun w ⟨_, hg, hw⟩ => h.2 w ⟨hw.1, hw.2.2 hg⟩⟩) id) hu hS (hS.set h1 h2) h
  rw [getD_set_ne true (waits_stays hw hir hjr)]
  exact hg
/-- Each of rs comes up next. -/
def RG (P : Program) (md : Region.Mode) (ops : Array Oper) (Q : Exit → Act → World → Prop) (S : Array Bool → World → Prop) (fuel : Nat) (listed : Array Bool) (a : Act) (w : World) (rs : List Nat) : Prop :=
  ∀ i ∈ rs, wpOp P ops Q i (fun a' w' => S (listed.setIfInBounds i true) w' ∧ wpG P md ops Q S fuel (listed.setIfInBounds i true) a' w') a w
theorem RG.nil {fuel : Nat} {listed : Array Bool} {a : Act} {w : World} : RG P md ops Q S fuel listed a w [] := fun _ h => by cases h
theorem RG.cons {fuel : Nat} {listed : Array Bool} {a : Act} {w : World} {i : Nat} {o : Oper} {rs : List Nat} (ho : ops.toList[i]? = some o) (hg : o.guard = none)
    (h : ∀ K' : Act → World → Prop, Shut (∀ a w, S (listed.setIfInBounds i true) w → (S (listed.setIfInBounds i true) w → wpG P md ops Q S fuel (listed.setIfInBounds i true) a w) → K' a w) → Oper.wp P o a w K' Q)
    (hs : RG P md ops Q S fuel listed a w rs) : RG P md ops Q S fuel listed a w (i :: rs) := fun j hj => by
  have ho' : ops[i]? = some o := by rw [← Array.getElem?_toList]; exact ho
  rcases List.mem_cons.1 hj with rfl | hj
  · refine wpOp_step ho' (fun K' hK => ?_)
    rw [if_pos (by simp [Region.wanted, hg])]
    exact h K' (fun a w hS hW => hK a w ⟨hS, hW hS⟩)
  · exact hs j hj
theorem wpG_ready {rs : List Nat} {fuel : Nat} {listed : Array Bool} {a : Act} {w : World} (hr : Region.ready md ops listed = rs) (hne : rs ≠ [])
    (h : RG P md ops Q S fuel listed a w rs) : wpG P md ops Q S (fuel + 1) listed a w := ⟨fun h0 => absurd (hr ▸ h0) hne, hr ▸ h⟩
theorem wpG_done {listed : Array Bool} {a : Act} {w : World} (hr : Region.ready md ops listed = []) (h : Q .normal a w) :
    ∀ fuel, wpG P md ops Q S fuel listed a w
  | 0 => ⟨hr, h⟩
  | _ + 1 => ⟨fun _ => h, by rw [hr]; simp⟩
theorem wp_region_G {id : Nat} {a : Act} {w : World} (hm : P.follows .mixedOrders = true) (hS : S (Array.replicate ops.size false) w.drew)
    (h : S (Array.replicate ops.size false) w.drew → wpG P .any ops Q S ops.size (Array.replicate ops.size false) a w.drew) : (Code.region id ops true).wp P Q a w :=
  wp_region_any hm (wpG_any _ _ _ _ (h hS))
end
end Tm
end Go.Proofs.YtifkjngclkklfaaGreatDoor
/- Contracts: what a node tells, by the program, given what its kids tell. -/
namespace Go.Proofs.YtifkjngclkklfaaGreatDoor
open Go.RowKit Go.Op
namespace Tm
open Ps Pg
/-- What a function's nodes tell. -/
def fnEnd (n : Nat) (F : Int × List Ty) : Int × Ty := if n = 0 then (8, dyn) else if F.1 ≠ 0 then (F.1, dyn) else (0, .mk 4 [] F.2)
theorem toldPlain {w w' : World} (z k : Int) (hb : Below w.heap.size w w') : ToldQ (z, .mk k [] []) w (.returned (.tuple #[.agg #[.int .i64 k, .slice none 0 0, .slice none 0 0], .int .i64 z])) w' :=
  ⟨Option.none, 0, Option.none, 0, rfl, TI_iff.2 ⟨NV.nil _ _ _ _, TV.nil _ _ _ _⟩, hb⟩
set_option maxHeartbeats 8000000 in
set_option maxRecDepth 100000 in
theorem told_node (w : World) (h : Hd) (k : Fo) (P : Nat → Prop) (A : Option Addr) (cap : Nat) (hK : KV w P k A cap)
    (C1 : h.kind = 32 → ∀ w' P', KV w' P' k A cap → Calls Tryz.prog 100 #[.slice A k.len cap] w' (ToldQ (recEnd (tri k).2.1) w'))
    (C2 : h.kind = 34 → ∀ w' P', KV w' P' k A cap → Calls Tryz.prog 101 #[.slice A k.len cap] w' (ToldQ (fnEnd k.len (tri k).2.2) w')) :
    Calls Tryz.prog 78 #[nvv h A k.len cap] w (ToldQ (node h k.len (tri k).2.1 (tri k).2.2) w) := by
  obtain ⟨W0, hW0⟩ : ∃ W0, W0 = (w.alloc (.cells (ncc h A k.len cap) 71)).alloc (.cells tzc 25) := ⟨_, rfl⟩
  have b1 : Below w.heap.size w (w.alloc (.cells (ncc h A k.len cap) 71)) := bel1 w _
  have b2 : Below (w.alloc (.cells (ncc h A k.len cap) 71)).heap.size (w.alloc (.cells (ncc h A k.len cap) 71)) _ := bel1 _ (.cells tzc 25)
  have HB0 : Hid (Below w.heap.size w ((w.alloc (.cells (ncc h A k.len cap) 71)).alloc (.cells tzc 25))) := b1.trans (b2.mono b1.size)
  have R1 := Lib.hid ((RowB.new w 71 (ncc h A k.len cap)).alloc (.cells tzc 25))
  have R2 : Hid (RowB ((w.alloc (.cells (ncc h A k.len cap) 71)).alloc (.cells tzc 25)) (w.heap.size + 1) 25 tzc) := by
    have := RowB.new (w.alloc (.cells (ncc h A k.len cap) 71)) 25 tzc
    have h2 : (w.alloc (.cells (ncc h A k.len cap) 71)).heap.size = w.heap.size + 1 := by simp
    rw [h2] at this
    exact this
  have CR := Lib.hid (fun e => C1 e _ _ (hK.below HB0.out))
  have CF := Lib.hid (fun e => C2 e _ _ (hK.below HB0.out))
  obtain ⟨r, hr⟩ : ∃ r, r = node h k.len (tri k).2.1 (tri k).2.2 := ⟨_, rfl⟩
  rw [← hr]
  have HR := Lib.hid hr
  generalize hn : k.len = n at *
  obtain ⟨hk0, f0, t0, w0, a0⟩ := h
  simp only at CR CF R1 R2 HB0
  obtain ⟨kz, hkz⟩ : ∃ kz : Int, kz = (hk0 : Int) := ⟨_, rfl⟩
  simp only [nvv, ncc] at R1 R2 HB0 CR CF b1 ⊢
  rw [← hkz] at R1 R2 HB0 CR CF b1 ⊢
  have r1 := R1.out.cell
  have r2 := R2.out.cell
  have r2t := R2.out.thaw
  have hc : kz = 0 ∨ kz = 31 ∨ kz = 29 ∨ kz = 30 ∨ kz = 32 ∨ kz = 34 ∨ (¬ kz = 0 ∧ ¬ kz = 31 ∧ ¬ kz = 29 ∧ ¬ kz = 30 ∧ ¬ kz = 32 ∧ ¬ kz = 34) := by omega
  have b1x := b1
  clear hW0 b1 b2 C1 C2 hK hr W0 hn
  rcases hc with rfl | rfl | rfl | rfl | rfl | rfl | ⟨h1, h2, h3, h4, h5, h6⟩
  · obtain rfl : hk0 = 0 := by omega
    have HF : Hid (r = (0, .mk 0 [] [])) := by unfold Hid; rw [HR.out]; rfl
    obtain rfl := HF.out
    clear HR HF hkz CR CF
    go_enter Tryz.func78, Tryz.ntmps78
    go_wp2_with fail
    refine bodyPost_ret (v := .tuple #[.agg #[.int .i64 0, .slice none 0 0, .slice none 0 0], .int .i64 0]) ?_ rfl (toldPlain 0 0 (by first | exact below_put3 HB0.out (Nat.le_succ _) _ _ _ | exact b1x.trans ((bel1 _ (.cells #[.int .i64 0, .slice none 0 0, .slice none 0 0] 25)).mono b1x.size)))
    simp [results, Tryz.results78, go_sem, r2]
    try first | rfl | exact ⟨rfl, rfl⟩
  · obtain rfl : hk0 = 31 := by omega
    have HF : Hid (r = (0, .mk 0 [] [])) := by unfold Hid; rw [HR.out]; rfl
    obtain rfl := HF.out
    clear HR HF hkz CR CF
    go_enter Tryz.func78, Tryz.ntmps78
    go_wp2_with fail
    refine bodyPost_ret (v := .tuple #[.agg #[.int .i64 0, .slice none 0 0, .slice none 0 0], .int .i64 0]) ?_ rfl (toldPlain 0 0 (by first | exact below_put3 HB0.out (Nat.le_succ _) _ _ _ | exact b1x.trans ((bel1 _ (.cells #[.int .i64 0, .slice none 0 0, .slice none 0 0] 25)).mono b1x.size)))
    simp [results, Tryz.results78, go_sem, r2]
    try first | rfl | exact ⟨rfl, rfl⟩
  · obtain rfl : hk0 = 29 := by omega
    have HF : Hid (r = (0, .mk 1 [] [])) := by unfold Hid; rw [HR.out]; rfl
    obtain rfl := HF.out
    clear HR HF hkz CR CF
    go_enter Tryz.func78, Tryz.ntmps78
    go_wp2_with fail
    refine bodyPost_ret (v := .tuple #[.agg #[.int .i64 1, .slice none 0 0, .slice none 0 0], .int .i64 0]) ?_ rfl (toldPlain 0 1 (by first | exact below_put3 HB0.out (Nat.le_succ _) _ _ _ | exact b1x.trans ((bel1 _ (.cells #[.int .i64 1, .slice none 0 0, .slice none 0 0] 25)).mono b1x.size)))
    simp [results, Tryz.results78, go_sem]
    try first | rfl | exact ⟨rfl, rfl⟩
  · obtain rfl : hk0 = 30 := by omega
    have HF : Hid (r = (0, .mk 2 [] [])) := by unfold Hid; rw [HR.out]; rfl
    obtain rfl := HF.out
    clear HR HF hkz CR CF
    go_enter Tryz.func78, Tryz.ntmps78
    go_wp2_with fail
    refine bodyPost_ret (v := .tuple #[.agg #[.int .i64 2, .slice none 0 0, .slice none 0 0], .int .i64 0]) ?_ rfl (toldPlain 0 2 (by first | exact below_put3 HB0.out (Nat.le_succ _) _ _ _ | exact b1x.trans ((bel1 _ (.cells #[.int .i64 2, .slice none 0 0, .slice none 0 0] 25)).mono b1x.size)))
    simp [results, Tryz.results78, go_sem]
    try first | rfl | exact ⟨rfl, rfl⟩
  · obtain rfl : hk0 = 32 := by omega
    have C := Lib.hid (CR.out rfl)
    have HF : Hid (r = recEnd (tri k).2.1) := by unfold Hid; rw [HR.out]; rfl
    obtain ⟨q, hq⟩ : ∃ q, q = recEnd (tri k).2.1 := ⟨_, rfl⟩
    rw [← hq] at HF C
    obtain rfl := HF.out
    clear HR HF hkz CR CF hq
    go_enter Tryz.func78, Tryz.ntmps78
    go_wp2_with fail
    refine C.out.mono ?_
    rintro e w2 ⟨An', cn', A', c', rfl, hti, hb2⟩
    have Y2 := Lib.hid (R2.out.below hb2 R2.out.lt)
    have y2 := Y2.out.cell
    have y2t := Y2.out.thaw
    have HB2 := Lib.hid (HB0.out.trans (hb2.mono HB0.out.size))
    have HTI := Lib.hid hti
    have HS := Lib.hid R2.out.lt
    clear hti hb2 C r1 r2 r2t R1 R2
    go_wp2_with fail
    refine bodyPost_ret (v := .tuple #[tv r.2 An' cn' A' c', .int .i64 r.1]) ?_ rfl ⟨An', cn', A', c', rfl, HTI.out.keep (by simp [World.setCell]) (fun g hg hl => ?_), below_put3 HB2.out (Nat.le_succ _) _ _ _⟩
    · simp [results, Tryz.results78, go_sem, y2]
      try first | rfl | exact ⟨rfl, rfl⟩
    · have h1 := HS.out
      have hx : g ≠ w.heap.size + 1 := by omega
      exact ⟨(Below.heap_setCell _ _ _ g hx).trans ((Below.heap_setCell _ _ _ g hx).trans (Below.heap_setCell _ _ _ g hx)), by omega⟩
  · obtain rfl : hk0 = 34 := by omega
    have C := Lib.hid (CF.out rfl)
    have HF : Hid (r = fnEnd n (tri k).2.2) := by unfold Hid; rw [HR.out]; rfl
    obtain ⟨q, hq⟩ : ∃ q, q = fnEnd n (tri k).2.2 := ⟨_, rfl⟩
    rw [← hq] at HF C
    obtain rfl := HF.out
    clear HR HF hkz CR CF hq
    go_enter Tryz.func78, Tryz.ntmps78
    go_wp2_with fail
    refine C.out.mono ?_
    rintro e w2 ⟨An', cn', A', c', rfl, hti, hb2⟩
    have Y2 := Lib.hid (R2.out.below hb2 R2.out.lt)
    have y2 := Y2.out.cell
    have y2t := Y2.out.thaw
    have HB2 := Lib.hid (HB0.out.trans (hb2.mono HB0.out.size))
    have HTI := Lib.hid hti
    have HS := Lib.hid R2.out.lt
    clear hti hb2 C r1 r2 r2t R1 R2
    go_wp2_with fail
    refine bodyPost_ret (v := .tuple #[tv r.2 An' cn' A' c', .int .i64 r.1]) ?_ rfl ⟨An', cn', A', c', rfl, HTI.out.keep (by simp [World.setCell]) (fun g hg hl => ?_), below_put3 HB2.out (Nat.le_succ _) _ _ _⟩
    · simp [results, Tryz.results78, go_sem, y2]
      try first | rfl | exact ⟨rfl, rfl⟩
    · have h1 := HS.out
      have hx : g ≠ w.heap.size + 1 := by omega
      exact ⟨(Below.heap_setCell _ _ _ g hx).trans ((Below.heap_setCell _ _ _ g hx).trans (Below.heap_setCell _ _ _ g hx)), by omega⟩
  · have HF : Hid (r = (8, .mk 0 [] [])) := by
      unfold Hid
      rw [HR.out]
      unfold node
      rw [if_neg (by show ¬ (hk0 = 0 ∨ hk0 = 31); omega), if_neg (by show ¬ hk0 = 29; omega), if_neg (by show ¬ hk0 = 30; omega), if_neg (by show ¬ hk0 = 32; omega), if_neg (by show ¬ hk0 = 34; omega)]
      rfl
    obtain rfl := HF.out
    clear HR HF hkz CR CF
    go_enter Tryz.func78, Tryz.ntmps78
    go_wp2_with fail
    refine bodyPost_ret (v := .tuple #[.agg #[.int .i64 0, .slice none 0 0, .slice none 0 0], .int .i64 8]) ?_ rfl (toldPlain 8 0 (by first | exact below_put3 HB0.out (Nat.le_succ _) _ _ _ | exact b1x.trans ((bel1 _ (.cells #[.int .i64 0, .slice none 0 0, .slice none 0 0] 25)).mono b1x.size)))
    simp [results, Tryz.results78, go_sem, r2]
    try first | rfl | exact ⟨rfl, rfl⟩
end Tm
end Go.Proofs.YtifkjngclkklfaaGreatDoor
